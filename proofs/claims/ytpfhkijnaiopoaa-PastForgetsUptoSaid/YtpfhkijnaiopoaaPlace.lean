/- How many pairs have keys below one: slices.BinarySearchFunc over pairs, and place. -/
import Derived.Test.YtpfhkijnaiopoaaPro
import Derived.Deep.LoopGhost
namespace Go.Proofs.Ytpfhkijnaiopoaa
open Go.RowKit
attribute [local go_sem] less_eq same_eq le_eq ge_eq gt_eq

set_option maxHeartbeats 1000000 in
set_option maxRecDepth 100000 in
theorem placecl_any (x : K × K) (k : K) (w : World) : Calls Try.prog 66 #[.agg #[.string x.1, .string x.2], .string k] w fun e w' => e = .returned (.int .i64 (cmpKey x.1 k)) ∧ Below w.heap.size w w' := by
  have hcon := fun W' => compare_any x.1 k W'
  generalize cmpKey x.1 k = r at hcon ⊢
  go_enter Try.func66, Try.ntmps66
  go_wp2_with (go_at_call 53; refine (hcon _).mono ?_; rintro e w' ⟨rfl, rfl⟩)
  go_ret
  exact ⟨rfl, (Below.refl _ _).alloc (Nat.le_refl _) _⟩

/-- how many have keys below one -/
def pos (l : List (K × K)) (k : K) : Nat := l.countP (fun p => decide (p.1 < k))
theorem pos_le (l : List (K × K)) (k : K) : pos l k ≤ l.length := List.countP_le_length
theorem pos_at (l : List (K × K)) (k : K) (i : Nat) (hi : i ≤ l.length) (h1 : ∀ t (_ : t < l.length), t < i → l[t].1 < k) (h2 : ∀ t (_ : t < l.length), i ≤ t → ¬ l[t].1 < k) : pos l k = i := by
  unfold pos
  rw [← List.take_append_drop i l, List.countP_append]
  have a : (l.take i).countP (fun p => decide (p.1 < k)) = i := by
    have : (l.take i).countP (fun p => decide (p.1 < k)) = (l.take i).length := List.countP_eq_length.2 fun x hx => by
      obtain ⟨t, ht, rfl⟩ := List.getElem_of_mem hx
      simp at ht
      simpa using h1 t (by omega) (by omega)
    rw [this, List.length_take]; omega
  have b : (l.drop i).countP (fun p => decide (p.1 < k)) = 0 := List.countP_eq_zero.2 fun x hx => by
    obtain ⟨t, ht, rfl⟩ := List.getElem_of_mem hx
    simp at ht
    simpa using h2 (i + t) (by omega) (by omega)
  rw [a, b]; rfl
theorem cmp_neg (a b : K) : (cmpKey a b < 0) ↔ a < b := by
  unfold cmpKey
  by_cases h1 : a < b
  · simp [h1]
  · by_cases h2 : b < a <;> simp [h1, h2]

set_option maxHeartbeats 4000000 in
set_option maxRecDepth 100000 in
theorem bsearch_any (l : List (K × K)) (hr : Rises l) (k : K) (v : Value) (w : World) (hv : RdP w w.heap.size v l) (hl : l.length < 4611686018427387904) :
    Calls Try.prog 51 #[v, .string k, .func (.func 66) #[] #[]] w fun e w' => ∃ b, e = .returned (.tuple #[.int .i64 (pos l k : Nat), .bool b]) ∧ Below w.heap.size w w' := by
  obtain ⟨A, c, rfl, hc, hi⟩ := hv.at
  have HI := Lib.hid hi; clear hi
  have HR := Lib.hid hr; clear hr
  clear hv
  obtain ⟨g, hg⟩ : ∃ g, g = w.heap.size := ⟨_, rfl⟩
  have HG := Lib.hid hg; clear hg
  have hcl := fun (x : K × K) (W : World) => placecl_any x k W
  have HC := Lib.hid hcl; clear hcl
  go_enter Try.func51, Try.ntmps51
  go_wp2_with fail
  go_loopg [9, 10] l.length (fun kx s9 s10 wr => ∃ lo hi : Nat, s9 = .int .i64 lo ∧ s10 = .int .i64 hi ∧ lo ≤ hi ∧ hi ≤ l.length ∧ hi - lo ≤ kx ∧ Hid (Below g w wr) ∧
    Hid ((∀ t (_ : t < l.length), t < lo → l[t].1 < k) ∧ (∀ t (_ : t < l.length), hi ≤ t → ¬ l[t].1 < k)))
  case atStart => exact ⟨0, l.length, rfl, rfl, Nat.zero_le _, Nat.le_refl _, by omega, Lib.hid (Below.refl _ _), Lib.hid ⟨fun t _ ht => absurd ht (Nat.not_lt_zero _), fun t h1 h2 => by omega⟩⟩
  case round =>
    obtain ⟨lo, hi, rfl, rfl, hlh, hin, hgk, HB, HM⟩ := hrel
    by_cases hlt : lo < hi
    · have hh : (lo + hi) / 2 < l.length := by omega
      obtain ⟨b, o, rfl, hbB, k0, k1⟩ := HI.out ((lo + hi) / 2) hh
      rw [← HB.out.cell (p := ⟨b, _, none⟩) (by rw [HG.out]; exact hbB)] at k0
      rw [← HB.out.cell (p := ⟨b, _, none⟩) (by rw [HG.out]; exact hbB)] at k1
      have hmid : ∀ t (_ : t < l.length), (t < (lo + hi) / 2 → l[t].1 < l[(lo + hi) / 2].1) ∧ ((lo + hi) / 2 < t → l[(lo + hi) / 2].1 < l[t].1) := fun t ht => ⟨fun h => HR.out.lt hh h, fun h => HR.out.lt ht h⟩
      have HMID := Lib.hid hmid; clear hmid
      have hcc := HC.out l[(lo + hi) / 2]
      have hneg := cmp_neg l[(lo + hi) / 2].1 k
      by_cases hx : l[(lo + hi) / 2].1 < k
      · have hlo : ∀ t (_ : t < l.length), t < (lo + hi) / 2 + 1 → l[t].1 < k := fun t ht h => by
          rcases Nat.lt_or_ge t ((lo + hi) / 2) with h1 | h1
          · have := (HMID.out t ht).1 h1; grind
          · have e : t = (lo + hi) / 2 := by omega
            subst e; exact hx
        have HLO := Lib.hid hlo; clear hlo
        have hneg2 := hneg.2 hx
        clear hneg hx HMID
        generalize cmpKey l[(lo + hi) / 2].1 k = r at hcc hneg2
        generalize l[(lo + hi) / 2] = z at k0 k1 hcc
        have HCC := Lib.hid hcc; clear hcc
        go_wp2_with fail
        refine (HCC.out _).mono ?_
        rintro e w2 ⟨rfl, hbn⟩
        have HB2 := Lib.hid (show Below g w w2 from HB.out.trans (hbn.mono (by rw [HG.out]; exact HB.out.size))); clear hbn
        clear k0 k1
        go_wp2_with fail
        go_roundg (hi - ((lo + hi) / 2 + 1))
        case measure => omega
        case rel => exact ⟨(lo + hi) / 2 + 1, hi, by rw [show ((lo : Int) + (hi : Int)) / 2 + 1 = (((lo + hi) / 2 + 1 : Nat) : Int) by omega], rfl, by omega, hin, Nat.le_refl _, HB2, Lib.hid ⟨HLO.out, HM.out.2⟩⟩
      · have hhi : ∀ t (_ : t < l.length), (lo + hi) / 2 ≤ t → ¬ l[t].1 < k := fun t ht h => by
          rcases Nat.lt_or_ge ((lo + hi) / 2) t with h1 | h1
          · have := (HMID.out t ht).2 h1; grind
          · have e : t = (lo + hi) / 2 := by omega
            subst e; exact hx
        have HHI := Lib.hid hhi; clear hhi
        have hneg2 : ¬ cmpKey l[(lo + hi) / 2].1 k < 0 := fun h => hx (hneg.1 h)
        clear hneg hx HMID
        generalize cmpKey l[(lo + hi) / 2].1 k = r at hcc hneg2
        generalize l[(lo + hi) / 2] = z at k0 k1 hcc
        have HCC := Lib.hid hcc; clear hcc
        go_wp2_with fail
        refine (HCC.out _).mono ?_
        rintro e w2 ⟨rfl, hbn⟩
        have HB2 := Lib.hid (show Below g w w2 from HB.out.trans (hbn.mono (by rw [HG.out]; exact HB.out.size))); clear hbn
        clear k0 k1
        go_wp2_with fail
        go_roundg ((lo + hi) / 2 - lo)
        case measure => omega
        case rel => exact ⟨lo, (lo + hi) / 2, rfl, by rw [show ((lo : Int) + (hi : Int)) / 2 = (((lo + hi) / 2 : Nat) : Int) by omega], by omega, by omega, Nat.le_refl _, HB2, Lib.hid ⟨HM.out.1, HHI.out⟩⟩
    · obtain rfl : hi = lo := by omega
      have hp : pos l k = hi := pos_at l k hi hin HM.out.1 HM.out.2
      have HP := Lib.hid hp; clear hp
      by_cases hn : hi < l.length
      · obtain ⟨b, o, rfl, hbB, k0, k1⟩ := HI.out hi hn
        rw [← HB.out.cell (p := ⟨b, _, none⟩) (by rw [HG.out]; exact hbB)] at k0
        rw [← HB.out.cell (p := ⟨b, _, none⟩) (by rw [HG.out]; exact hbB)] at k1
        have hcc := HC.out l[hi]
        generalize cmpKey l[hi].1 k = r at hcc
        generalize l[hi] = z at k0 k1 hcc
        have HCC := Lib.hid hcc; clear hcc
        go_wp2_with fail
        refine (HCC.out _).mono ?_
        rintro e w2 ⟨rfl, hbn⟩
        have HB2 := Lib.hid (show Below g w w2 from HB.out.trans (hbn.mono (by rw [HG.out]; exact HB.out.size))); clear hbn
        clear k0 k1
        go_wp2_with fail
        go_ret2
        exact ⟨_, by rw [HP.out]; rfl, by have h := HB2.out; rwa [HG.out] at h⟩
      · go_wp2_with fail
        go_ret2
        exact ⟨_, by rw [HP.out]; rfl, by have h := HB.out; rwa [HG.out] at h⟩

set_option maxHeartbeats 4000000 in
set_option maxRecDepth 100000 in
theorem place_any (l : List (K × K)) (hr : Rises l) (k : K) (v : Value) (w : World) (hv : RdP w w.heap.size v l) (hl : l.length < 4611686018427387904) :
    Calls Try.prog 59 #[v, .string k] w fun e w' => e = .returned (.int .i64 (pos l k : Nat)) ∧ Below w.heap.size w w' := by
  have hb := bsearch_any l hr k v w hv hl
  generalize pos l k = r at hb ⊢
  clear hv hr
  have HB := Lib.hid hb; clear hb
  go_enter Try.func59, Try.ntmps59
  go_wp2_with fail
  refine HB.out.mono ?_
  rintro e w1 ⟨b, rfl, hb1⟩
  have HB1 := Lib.hid hb1; clear hb1
  go_wp2_with fail
  go_ret
  exact ⟨rfl, HB1.out⟩
end Go.Proofs.Ytpfhkijnaiopoaa
