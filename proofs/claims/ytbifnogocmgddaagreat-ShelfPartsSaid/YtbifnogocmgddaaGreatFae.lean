/- The small functions of the change layer: Check, put, wipe, single, reach, first. How many pairs have keys below one: slices.BinarySearchFunc over pairs, and place. What a change does to rising pairs, as a part that is put in the place of another. What the program's sound answers. -/
import Derived.Test.YtbifnogocmgddaaGreatFac
import Derived.Test.YtbifnogocmgddaaGreatFad
import Derived.Deep.LoopGhost
namespace Go.Proofs.YtbifnogocmgddaaGreat
open Go.RowKit
attribute [local go_sem] less_eq same_eq le_eq ge_eq gt_eq

theorem put_two (w : World) (G : Nat) (x y : Value) {a b : Value} (h0 : w.cell? ⟨G, 0, none⟩ = some a) (h1 : w.cell? ⟨G, 1, none⟩ = some b) (z0 : w.frozen? ⟨G, 0, none⟩ = false) (z1 : w.frozen? ⟨G, 1, none⟩ = false) :
    (w.setCell ⟨G, 0, none⟩ x).cell? ⟨G, 1, none⟩ = some b ∧ (w.setCell ⟨G, 0, none⟩ x).frozen? ⟨G, 1, none⟩ = false ∧
    ((w.setCell ⟨G, 0, none⟩ x).setCell ⟨G, 1, none⟩ y).cell? ⟨G, 0, none⟩ = some x ∧ ((w.setCell ⟨G, 0, none⟩ x).setCell ⟨G, 1, none⟩ y).cell? ⟨G, 1, none⟩ = some y := by
  have e : (⟨G, 0, none⟩ : Addr) ≠ ⟨G, 1, none⟩ := by simp
  have k1 := (World.cell?_setCell_other w ⟨G, 0, none⟩ ⟨G, 1, none⟩ x e).trans h1
  refine ⟨k1, ?_, ?_, World.cell?_setCell_same _ _ _ k1⟩
  · rw [World.frozen?_setCell]; exact z1
  · exact (World.cell?_setCell_other _ ⟨G, 1, none⟩ ⟨G, 0, none⟩ y (Ne.symm e)).trans (World.cell?_setCell_same _ _ _ h0)

def put3 (p : K × K) : Value := .agg #[.int .i64 1, .string p.1, .string p.2]
def wipe3 (s : K × K) : Value := .agg #[.int .i64 3, .string s.1, .string s.2]
set_option maxHeartbeats 1000000 in
set_option maxRecDepth 100000 in
theorem cput_any (p : K × K) (w : World) : Calls Tryz.prog 101 #[.agg #[.string p.1, .string p.2]] w fun e w' => e = .returned (.agg #[.int .i64 1, .string p.1, .string p.2]) ∧ Below w.heap.size w w' := by
  go_enter Tryz.func101, Tryz.ntmps101
  go_wp2_with fail
  refine bodyPost_ret (v := .agg #[.int .i64 1, .string p.1, .string p.2]) (by simp [results, Tryz.results101, go_sem]) rfl ⟨rfl, ?_⟩
  ((repeat' (first | exact Below.refl _ _ | refine Below.alloc ?_ ?_ _ | refine Below.setCell ?_ ?_ _ | refine Below.drew ?_)); all_goals ((try simp only [World.size_alloc]); omega))

set_option maxHeartbeats 1000000 in
set_option maxRecDepth 100000 in
theorem single_any (k : K) (w : World) (hk : k.size < 4611686018427387904) : Calls Tryz.prog 74 #[.string k] w fun e w' => e = .returned (.agg #[.string k, .string (k ++ ⟨#[0]⟩)]) ∧ Below w.heap.size w w' := by
  have hn := fun W => next_any k W (by omega)
  go_enter Tryz.func74, Tryz.ntmps74
  go_wp2_with (go_at_call 95; refine (hn _).mono ?_; rintro e w' ⟨rfl, rfl⟩)
  refine bodyPost_ret (v := .agg #[.string k, .string (k ++ ⟨#[0]⟩)]) (by simp [results, Tryz.results74, go_sem]) rfl ⟨rfl, ?_⟩
  ((repeat' (first | exact Below.refl _ _ | refine Below.alloc ?_ ?_ _ | refine Below.setCell ?_ ?_ _ | refine Below.drew ?_)); all_goals ((try simp only [World.size_alloc]); omega))

set_option maxHeartbeats 4000000 in
set_option maxRecDepth 100000 in
theorem pcheck_any (c : Chg) (w : World) (hk : c.key.size < 9223372036854775807) (hv : c.val.size < 9223372036854775807) : Calls Tryz.prog 48 #[cval c] w fun e w' => e = .returned (.int .i64 (checkAns c)) ∧ Below w.heap.size w w' := by
  obtain ⟨k, x, y⟩ := c
  obtain ⟨R, hR⟩ : ∃ R, R = checkAns ⟨k, x, y⟩ := ⟨_, rfl⟩
  rw [← hR]
  unfold checkAns at hR
  unfold cval
  simp only at hR hk hv ⊢
  have HB := Lib.hid (((Below.refl _ w).alloc (Nat.le_refl _) (.cells #[.int .i64 k, .string x, .string y] 67)))
  by_cases h1 : k = 1
  · rw [if_pos h1] at hR
    subst h1
    by_cases ha : x.size > 16
    · rw [if_pos (.inl ha)] at hR
      have HR := Lib.hid hR; clear hR
      have ha1 : (16 : Int) < (x.size : Int) := by omega
      go_enter Tryz.func48, Tryz.ntmps48
      go_wp2_with fail
      go_ret
      exact ⟨by rw [HR.out]; rfl, HB.out⟩
    have ha1 : ¬ (16 : Int) < (x.size : Int) := by omega
    by_cases hb : y.size > 64
    · rw [if_pos (.inr hb)] at hR
      have HR := Lib.hid hR; clear hR
      have hb1 : (64 : Int) < (y.size : Int) := by omega
      go_enter Tryz.func48, Tryz.ntmps48
      go_wp2_with fail
      go_ret
      exact ⟨by rw [HR.out]; rfl, HB.out⟩
    rw [if_neg (by omega)] at hR
    have hb1 : ¬ (64 : Int) < (y.size : Int) := by omega
    have HR := Lib.hid hR; clear hR
    go_enter Tryz.func48, Tryz.ntmps48
    go_wp2_with fail
    go_ret
    exact ⟨by rw [HR.out]; rfl, HB.out⟩
  by_cases h2 : k = 2
  · rw [if_neg h1, if_pos h2] at hR
    subst h2
    clear h1
    by_cases hb : y = ⟨#[]⟩
    · subst hb
      by_cases ha : x.size > 16
      · rw [if_pos (.inl ha)] at hR
        have HR := Lib.hid hR; clear hR
        have ha1 : (16 : Int) < (x.size : Int) := by omega
        go_enter Tryz.func48, Tryz.ntmps48
        go_wp2_with fail
        go_ret
        exact ⟨by rw [HR.out]; rfl, HB.out⟩
      have ha1 : ¬ (16 : Int) < (x.size : Int) := by omega
      rw [if_neg (by have h0 : (⟨#[]⟩ : ByteArray).size = 0 := rfl
                     omega)] at hR
      have HR := Lib.hid hR; clear hR
      go_enter Tryz.func48, Tryz.ntmps48
      go_wp2_with fail
      go_ret
      exact ⟨by rw [HR.out]; rfl, HB.out⟩
    · have hy : y.size > 0 := by
        rcases Nat.eq_zero_or_pos y.size with h | h
        · exact absurd (ByteArray.ext (Array.eq_empty_of_size_eq_zero h)) hb
        · exact h
      have hne : (ByteArray.toList y).isEmpty = false := by
        rw [Lib.toList_data]
        cases hd : y.data.toList with
        | nil => exact absurd (ByteArray.ext (Array.toList_eq_nil_iff.1 hd)) hb
        | cons a r => rfl
      rw [if_pos (.inr hy)] at hR
      have HR := Lib.hid hR; clear hR
      go_enter Tryz.func48, Tryz.ntmps48
      go_wp2_with fail
      go_ret
      exact ⟨by rw [HR.out]; rfl, HB.out⟩
  by_cases h3 : k = 3
  · rw [if_neg h1, if_neg h2, if_pos h3] at hR
    subst h3
    clear h1 h2
    by_cases ha : x.size > 17
    · rw [if_pos (.inl ha)] at hR
      have HR := Lib.hid hR; clear hR
      have ha1 : (17 : Int) < (x.size : Int) := by omega
      go_enter Tryz.func48, Tryz.ntmps48
      go_wp2_with fail
      go_ret
      exact ⟨by rw [HR.out]; rfl, HB.out⟩
    have ha1 : ¬ (17 : Int) < (x.size : Int) := by omega
    by_cases hb : y.size > 17
    · rw [if_pos (.inr hb)] at hR
      have HR := Lib.hid hR; clear hR
      have hb1 : (17 : Int) < (y.size : Int) := by omega
      go_enter Tryz.func48, Tryz.ntmps48
      go_wp2_with fail
      go_ret
      exact ⟨by rw [HR.out]; rfl, HB.out⟩
    rw [if_neg (by omega)] at hR
    have hb1 : ¬ (17 : Int) < (y.size : Int) := by omega
    by_cases hl : y < x
    · rw [if_pos hl] at hR
      have HR := Lib.hid hR; clear hR
      go_enter Tryz.func48, Tryz.ntmps48
      go_wp2_with fail
      go_ret
      exact ⟨by rw [HR.out]; rfl, HB.out⟩
    rw [if_neg hl] at hR
    have HR := Lib.hid hR; clear hR
    go_enter Tryz.func48, Tryz.ntmps48
    go_wp2_with fail
    go_ret
    exact ⟨by rw [HR.out]; rfl, HB.out⟩
  rw [if_neg h1, if_neg h2, if_neg h3] at hR
  have HR := Lib.hid hR; clear hR
  go_enter Tryz.func48, Tryz.ntmps48
  go_wp2_with fail
  go_ret
  exact ⟨by rw [HR.out]; rfl, HB.out⟩

set_option maxHeartbeats 1000000 in
set_option maxRecDepth 100000 in
theorem reach_any (c : Chg) (w : World) (hk : c.key.size < 4611686018427387904) : Calls Tryz.prog 46 #[cval c] w fun e w' => e = .returned (spv (cspan c)) ∧ Below w.heap.size w w' := by
  obtain ⟨k, x, y⟩ := c
  unfold cval cspan spv
  simp only at hk ⊢
  by_cases h3 : k = 3
  · subst h3
    rw [if_pos rfl]
    go_enter Tryz.func46, Tryz.ntmps46
    go_wp2_with fail
    refine bodyPost_ret (v := .agg #[.string x, .string y]) (by simp [results, Tryz.results46, go_sem]) rfl ⟨rfl, ?_⟩
    ((repeat' (first | exact Below.refl _ _ | refine Below.alloc ?_ ?_ _ | refine Below.setCell ?_ ?_ _ | refine Below.drew ?_)); all_goals ((try simp only [World.size_alloc]); omega))
  · rw [if_neg h3]
    have hs := fun W => single_any x W hk
    have HB := Lib.hid (((Below.refl _ w).alloc (Nat.le_refl _) (.cells #[.int .i64 k, .string x, .string y] 67)).alloc (by simp) (.cells #[.string ⟨#[]⟩, .string ⟨#[]⟩] 31))
    go_enter Tryz.func46, Tryz.ntmps46
    go_wp2_with fail
    refine (hs _).mono ?_
    rintro e w1 ⟨rfl, hb1⟩
    have hlt : w.heap.size + 1 < w1.heap.size := by have := hb1.size; simp at this; omega
    have k0 : w1.cell? ⟨w.heap.size + 1, 0, none⟩ = some (.string ⟨#[]⟩) := by
      rw [hb1.cell (p := ⟨w.heap.size + 1, 0, none⟩) (by simp)]
      exact World.cell?_alloc_at _ _ _ _ (by simp)
    have k1 : w1.cell? ⟨w.heap.size + 1, 1, none⟩ = some (.string ⟨#[]⟩) := by
      rw [hb1.cell (p := ⟨w.heap.size + 1, 1, none⟩) (by simp)]
      exact World.cell?_alloc_at _ _ _ _ (by simp)
    have f0 : ∀ j, w1.frozen? ⟨w.heap.size + 1, j, none⟩ = false := fun j => by
      rw [hb1.frozen (p := ⟨w.heap.size + 1, j, none⟩) (by simp), frozen?_alloc_cells]
      simp [World.frozen?]
    have f1 := f0 0
    have f2 := f0 1
    obtain ⟨e0, e1, e2, e3⟩ := put_two w1 (w.heap.size + 1) (.string x) (.string (x ++ ⟨#[0]⟩)) k0 k1 f1 f2
    have HB1 := Lib.hid (show Below w.heap.size w w1 from HB.out.trans (hb1.mono (by simp; omega))); clear hb1
    clear f0
    go_wp2_with fail
    refine bodyPost_ret (v := .agg #[.string x, .string (x ++ ⟨#[0]⟩)]) (by simp [results, Tryz.results46, go_sem, e2, e3]) rfl ⟨rfl, ?_⟩
    exact (HB1.out.setCell (by simp) _).setCell (by simp) _

set_option maxHeartbeats 1000000 in
set_option maxRecDepth 100000 in
theorem first_any (l : List Chg) (hs : ∀ c ∈ l, smallC c) (v : Value) (w : World) (hv : RdC w w.heap.size v l) (hl : l.length < 4611686018427387904) :
    Calls Tryz.prog 44 #[v] w fun e w' => e = .returned (.int .i64 (allAns l)) ∧ Below w.heap.size w w' := by
  obtain ⟨A, c, rfl, hc, hi⟩ := hv.at
  obtain ⟨R, hR⟩ : ∃ R, R = allAns l := ⟨_, rfl⟩
  rw [← hR]
  have HR := Lib.hid hR; clear hR
  have HI := Lib.hid hi; clear hi
  have HS := Lib.hid hs; clear hs
  clear hv
  obtain ⟨g, hg⟩ : ∃ g, g = w.heap.size := ⟨_, rfl⟩
  have HG := Lib.hid hg; clear hg
  go_enter Tryz.func44, Tryz.ntmps44
  go_wp2_with fail
  go_loopw [8] (fun iv wr => ∃ i : Nat, i ≤ l.length ∧ iv = .int .i64 i ∧ Below g w wr ∧ R = allAns (l.drop i)) (fun iv _ => l.length - (intOf iv).toNat)
  case atStart => exact ⟨0, Nat.zero_le _, rfl, Below.refl _ _, HR.out⟩
  case round =>
    obtain ⟨i, hil, rfl, hbw, he⟩ := hrel
    have HBW := Lib.hid hbw; clear hbw
    have HE := Lib.hid he; clear he
    by_cases hlt : i < l.length
    · obtain ⟨b, o, rfl, hbB, k0, k1, k2⟩ := HI.out i hlt
      have hsm := HS.out l[i] (List.getElem_mem hlt)
      have hd := HE.out
      rw [List.drop_eq_getElem_cons hlt, allAns] at hd
      rw [← HBW.out.cell (p := ⟨b, o + i * 3, none⟩) (by rw [HG.out]; exact hbB)] at k0
      rw [← HBW.out.cell (p := ⟨b, o + i * 3 + 1, none⟩) (by rw [HG.out]; exact hbB)] at k1
      rw [← HBW.out.cell (p := ⟨b, o + i * 3 + 2, none⟩) (by rw [HG.out]; exact hbB)] at k2
      generalize l[i] = z at k0 k1 k2 hsm hd
      have hck := fun W => pcheck_any z W (by have := hsm.1; omega) (by have := hsm.2; omega)
      unfold cval at hck
      generalize checkAns z = q at hck hd
      obtain ⟨kz, xz, yz⟩ := z
      simp only at k0 k1 k2 hck
      have HD := Lib.hid hd
      have HK := Lib.hid hck
      clear hd hck hsm
      go_wp2_with fail
      refine (HK.out _).mono ?_
      rintro e w2 ⟨rfl, hb2⟩
      have HW2 := Lib.hid (show Below g w w2 from (HBW.out.alloc (by rw [HG.out]; have := HBW.out.size; omega) _).trans (hb2.mono (by rw [HG.out, World.size_alloc]; have := HBW.out.size; omega)))
      clear hb2 k0 k1 k2
      by_cases hq : q = 0
      · subst hq
        have hd := HD.out
        rw [if_pos rfl] at hd
        have HD2 := Lib.hid hd; clear hd
        go_wp2_with fail
        go_roundw
        case rel => exact ⟨i + 1, by omega, by go_num, HW2.out, HD2.out⟩
        case measure => simp [intOf]; omega
      · have hd := HD.out
        rw [if_neg hq] at hd
        have HD2 := Lib.hid hd; clear hd
        go_wp2_with fail
        go_ret
        exact ⟨by rw [HD2.out]; rfl, by have h := HW2.out; rwa [HG.out] at h⟩
    · have hd := HE.out
      rw [List.drop_eq_nil_of_le (by omega), allAns] at hd
      have HD := Lib.hid hd; clear hd
      go_wp2_with fail
      go_ret
      exact ⟨by rw [HD.out]; rfl, by have h := HBW.out; rwa [HG.out] at h⟩
end Go.Proofs.YtbifnogocmgddaaGreat
namespace Go.Proofs.YtbifnogocmgddaaGreat
open Go.RowKit
attribute [local go_sem] less_eq same_eq le_eq ge_eq gt_eq

set_option maxHeartbeats 1000000 in
set_option maxRecDepth 100000 in
theorem placecl_any (x : K × K) (k : K) (w : World) : Calls Tryz.prog 111 #[.agg #[.string x.1, .string x.2], .string k] w fun e w' => e = .returned (.int .i64 (cmpKey x.1 k)) ∧ Below w.heap.size w w' := by
  have hcon := fun W' => compare_any x.1 k W'
  generalize cmpKey x.1 k = r at hcon ⊢
  go_enter Tryz.func111, Tryz.ntmps111
  go_wp2_with (go_at_call 79; refine (hcon _).mono ?_; rintro e w' ⟨rfl, rfl⟩)
  go_ret
  exact ⟨rfl, (Below.refl _ _).alloc (Nat.le_refl _) _⟩

/-- how many have keys below one -/
def pos (l : List (K × K)) (k : K) : Nat := l.countP (fun p => decide (p.1 < k))
theorem pos_le (l : List (K × K)) (k : K) : pos l k ≤ l.length := List.countP_le_length
theorem pos_at (l : List (K × K)) (k : K) (i : Nat) (hi : i ≤ l.length) (h1 : ∀ t (_ : t < l.length), t < i → l[t].1 < k) (h2 : ∀ t (_ : t < l.length), i ≤ t → ¬ l[t].1 < k) : pos l k = i := by
  unfold pos
  rw [← List.take_append_drop i l, List.countP_append]
  have a : (l.take i).countP (fun p => decide (p.1 < k)) = i := by
    have : (l.take i).countP (fun p => decide (p.1 < k)) = (l.take i).length := List.countP_eq_length.2 fun x hx => by
      obtain ⟨t, ht, rfl⟩ := List.getElem_of_mem hx
      simp at ht
      simpa using h1 t (by omega) (by omega)
    rw [this, List.length_take]; omega
  have b : (l.drop i).countP (fun p => decide (p.1 < k)) = 0 := List.countP_eq_zero.2 fun x hx => by
    obtain ⟨t, ht, rfl⟩ := List.getElem_of_mem hx
    simp at ht
    simpa using h2 (i + t) (by omega) (by omega)
  rw [a, b]; rfl
theorem cmp_neg (a b : K) : (cmpKey a b < 0) ↔ a < b := by
  unfold cmpKey
  by_cases h1 : a < b
  · simp [h1]
  · by_cases h2 : b < a <;> simp [h1, h2]

set_option maxHeartbeats 4000000 in
set_option maxRecDepth 100000 in
theorem bsearch_any (l : List (K × K)) (hr : Rises l) (k : K) (v : Value) (w : World) (hv : RdP w w.heap.size v l) (hl : l.length < 4611686018427387904) :
    Calls Tryz.prog 77 #[v, .string k, .func (.func 111) #[] #[]] w fun e w' => ∃ b, e = .returned (.tuple #[.int .i64 (pos l k : Nat), .bool b]) ∧ Below w.heap.size w w' := by
  obtain ⟨A, c, rfl, hc, hi⟩ := hv.at
  have HI := Lib.hid hi; clear hi
  have HR := Lib.hid hr; clear hr
  clear hv
  obtain ⟨g, hg⟩ : ∃ g, g = w.heap.size := ⟨_, rfl⟩
  have HG := Lib.hid hg; clear hg
  have hcl := fun (x : K × K) (W : World) => placecl_any x k W
  have HC := Lib.hid hcl; clear hcl
  go_enter Tryz.func77, Tryz.ntmps77
  go_wp2_with fail
  go_loopg [9, 10] l.length (fun kx s9 s10 wr => ∃ lo hi : Nat, s9 = .int .i64 lo ∧ s10 = .int .i64 hi ∧ lo ≤ hi ∧ hi ≤ l.length ∧ hi - lo ≤ kx ∧ Hid (Below g w wr) ∧
    Hid ((∀ t (_ : t < l.length), t < lo → l[t].1 < k) ∧ (∀ t (_ : t < l.length), hi ≤ t → ¬ l[t].1 < k)))
  case atStart => exact ⟨0, l.length, rfl, rfl, Nat.zero_le _, Nat.le_refl _, by omega, Lib.hid (Below.refl _ _), Lib.hid ⟨fun t _ ht => absurd ht (Nat.not_lt_zero _), fun t h1 h2 => by omega⟩⟩
  case round =>
    obtain ⟨lo, hi, rfl, rfl, hlh, hin, hgk, HB, HM⟩ := hrel
    by_cases hlt : lo < hi
    · have hh : (lo + hi) / 2 < l.length := by omega
      obtain ⟨b, o, rfl, hbB, k0, k1⟩ := HI.out ((lo + hi) / 2) hh
      rw [← HB.out.cell (p := ⟨b, _, none⟩) (by rw [HG.out]; exact hbB)] at k0
      rw [← HB.out.cell (p := ⟨b, _, none⟩) (by rw [HG.out]; exact hbB)] at k1
      have hmid : ∀ t (_ : t < l.length), (t < (lo + hi) / 2 → l[t].1 < l[(lo + hi) / 2].1) ∧ ((lo + hi) / 2 < t → l[(lo + hi) / 2].1 < l[t].1) := fun t ht => ⟨fun h => HR.out.lt hh h, fun h => HR.out.lt ht h⟩
      have HMID := Lib.hid hmid; clear hmid
      have hcc := HC.out l[(lo + hi) / 2]
      have hneg := cmp_neg l[(lo + hi) / 2].1 k
      by_cases hx : l[(lo + hi) / 2].1 < k
      · have hlo : ∀ t (_ : t < l.length), t < (lo + hi) / 2 + 1 → l[t].1 < k := fun t ht h => by
          rcases Nat.lt_or_ge t ((lo + hi) / 2) with h1 | h1
          · have := (HMID.out t ht).1 h1; grind
          · have e : t = (lo + hi) / 2 := by omega
            subst e; exact hx
        have HLO := Lib.hid hlo; clear hlo
        have hneg2 := hneg.2 hx
        clear hneg hx HMID
        generalize cmpKey l[(lo + hi) / 2].1 k = r at hcc hneg2
        generalize l[(lo + hi) / 2] = z at k0 k1 hcc
        have HCC := Lib.hid hcc; clear hcc
        go_wp2_with fail
        refine (HCC.out _).mono ?_
        rintro e w2 ⟨rfl, hbn⟩
        have HB2 := Lib.hid (show Below g w w2 from HB.out.trans (hbn.mono (by rw [HG.out]; exact HB.out.size))); clear hbn
        clear k0 k1
        go_wp2_with fail
        go_roundg (hi - ((lo + hi) / 2 + 1))
        case measure => omega
        case rel => exact ⟨(lo + hi) / 2 + 1, hi, by rw [show ((lo : Int) + (hi : Int)) / 2 + 1 = (((lo + hi) / 2 + 1 : Nat) : Int) by omega], rfl, by omega, hin, Nat.le_refl _, HB2, Lib.hid ⟨HLO.out, HM.out.2⟩⟩
      · have hhi : ∀ t (_ : t < l.length), (lo + hi) / 2 ≤ t → ¬ l[t].1 < k := fun t ht h => by
          rcases Nat.lt_or_ge ((lo + hi) / 2) t with h1 | h1
          · have := (HMID.out t ht).2 h1; grind
          · have e : t = (lo + hi) / 2 := by omega
            subst e; exact hx
        have HHI := Lib.hid hhi; clear hhi
        have hneg2 : ¬ cmpKey l[(lo + hi) / 2].1 k < 0 := fun h => hx (hneg.1 h)
        clear hneg hx HMID
        generalize cmpKey l[(lo + hi) / 2].1 k = r at hcc hneg2
        generalize l[(lo + hi) / 2] = z at k0 k1 hcc
        have HCC := Lib.hid hcc; clear hcc
        go_wp2_with fail
        refine (HCC.out _).mono ?_
        rintro e w2 ⟨rfl, hbn⟩
        have HB2 := Lib.hid (show Below g w w2 from HB.out.trans (hbn.mono (by rw [HG.out]; exact HB.out.size))); clear hbn
        clear k0 k1
        go_wp2_with fail
        go_roundg ((lo + hi) / 2 - lo)
        case measure => omega
        case rel => exact ⟨lo, (lo + hi) / 2, rfl, by rw [show ((lo : Int) + (hi : Int)) / 2 = (((lo + hi) / 2 : Nat) : Int) by omega], by omega, by omega, Nat.le_refl _, HB2, Lib.hid ⟨HM.out.1, HHI.out⟩⟩
    · obtain rfl : hi = lo := by omega
      have hp : pos l k = hi := pos_at l k hi hin HM.out.1 HM.out.2
      have HP := Lib.hid hp; clear hp
      by_cases hn : hi < l.length
      · obtain ⟨b, o, rfl, hbB, k0, k1⟩ := HI.out hi hn
        rw [← HB.out.cell (p := ⟨b, _, none⟩) (by rw [HG.out]; exact hbB)] at k0
        rw [← HB.out.cell (p := ⟨b, _, none⟩) (by rw [HG.out]; exact hbB)] at k1
        have hcc := HC.out l[hi]
        generalize cmpKey l[hi].1 k = r at hcc
        generalize l[hi] = z at k0 k1 hcc
        have HCC := Lib.hid hcc; clear hcc
        go_wp2_with fail
        refine (HCC.out _).mono ?_
        rintro e w2 ⟨rfl, hbn⟩
        have HB2 := Lib.hid (show Below g w w2 from HB.out.trans (hbn.mono (by rw [HG.out]; exact HB.out.size))); clear hbn
        clear k0 k1
        go_wp2_with fail
        go_ret2
        exact ⟨_, by rw [HP.out]; rfl, by have h := HB2.out; rwa [HG.out] at h⟩
      · go_wp2_with fail
        go_ret2
        exact ⟨_, by rw [HP.out]; rfl, by have h := HB.out; rwa [HG.out] at h⟩

set_option maxHeartbeats 4000000 in
set_option maxRecDepth 100000 in
theorem place_any (l : List (K × K)) (hr : Rises l) (k : K) (v : Value) (w : World) (hv : RdP w w.heap.size v l) (hl : l.length < 4611686018427387904) :
    Calls Tryz.prog 104 #[v, .string k] w fun e w' => e = .returned (.int .i64 (pos l k : Nat)) ∧ Below w.heap.size w w' := by
  have hb := bsearch_any l hr k v w hv hl
  generalize pos l k = r at hb ⊢
  clear hv hr
  have HB := Lib.hid hb; clear hb
  go_enter Tryz.func104, Tryz.ntmps104
  go_wp2_with fail
  refine HB.out.mono ?_
  rintro e w1 ⟨b, rfl, hb1⟩
  have HB1 := Lib.hid hb1; clear hb1
  go_wp2_with fail
  go_ret
  exact ⟨rfl, HB1.out⟩
end Go.Proofs.YtbifnogocmgddaaGreat
namespace Go.Proofs.YtbifnogocmgddaaGreat

theorem Rises.ext : ∀ {a b : List (K × K)}, Rises a → Rises b → (∀ p, p ∈ a ↔ p ∈ b) → a = b
  | [], [], _, _, _ => rfl
  | [], y :: s, _, _, h => by have := (h y).2 (by simp); simp at this
  | x :: r, [], _, _, h => by have := (h x).1 (by simp); simp at this
  | x :: r, y :: s, ha, hb, h => by
    obtain ⟨a1, a2⟩ := rises_cons.1 ha
    obtain ⟨b1, b2⟩ := rises_cons.1 hb
    have hxy : x = y := by
      rcases List.mem_cons.1 ((h x).1 (by simp)) with e | e
      · exact e
      · rcases List.mem_cons.1 ((h y).2 (by simp)) with e' | e'
        · exact e'.symm
        · have := a1 y e'; have := b1 x e; grind
    subst hxy
    refine congrArg (x :: ·) (Rises.ext a2 b2 fun p => ?_)
    have hp := h p
    simp only [List.mem_cons] at hp
    constructor
    · intro hm
      rcases hp.1 (.inr hm) with e | e
      · subst e; have := a1 p hm; grind
      · exact e
    · intro hm
      rcases hp.2 (.inr hm) with e | e
      · subst e; have := b1 p hm; grind
      · exact e

theorem rises_cut : ∀ {l : List (K × K)}, Rises l → ∀ k, l.take (pos l k) = l.filter (fun p => decide (p.1 < k)) ∧ l.drop (pos l k) = l.filter (fun p => !decide (p.1 < k))
  | [], _, k => by simp [pos]
  | x :: r, h, k => by
    obtain ⟨h1, h2⟩ := rises_cons.1 h
    obtain ⟨i1, i2⟩ := rises_cut h2 k
    by_cases hx : x.1 < k
    · have e : pos (x :: r) k = pos r k + 1 := by unfold pos; rw [List.countP_cons_of_pos (by simpa using hx)]
      rw [e, List.take_succ_cons, List.drop_succ_cons, i1, i2]
      simp [hx]
    · have hr : ∀ p ∈ r, ¬ p.1 < k := fun p hp => by have := h1 p hp; grind
      have e : pos (x :: r) k = 0 := by
        unfold pos
        rw [List.countP_eq_zero]
        intro p hp
        rcases List.mem_cons.1 hp with rfl | hp
        · simpa using hx
        · simpa using hr p hp
      rw [e, List.take_zero, List.drop_zero]
      constructor
      · symm; rw [List.filter_eq_nil_iff]
        intro p hp
        rcases List.mem_cons.1 hp with rfl | hp
        · simpa using hx
        · simpa using hr p hp
      · symm; rw [List.filter_eq_self]
        intro p hp
        rcases List.mem_cons.1 hp with rfl | hp
        · simpa using hx
        · simpa using hr p hp

/-- what a change puts in -/
def inOf (c : Chg) : List (K × K) := if c.kind = 1 then [(c.key, c.val)] else []
theorem cspan_le {c : Chg} (h : checkAns c = 0) : (cspan c).1 ≤ (cspan c).2 := by
  unfold cspan
  by_cases h3 : c.kind = 3
  · rw [if_pos h3]
    unfold checkAns at h
    rw [if_neg (by omega), if_neg (by omega), if_pos h3] at h
    split at h
    · simp at h
    · split at h
      · simp at h
      · simp only; grind
  · rw [if_neg h3]
    have := (key_next c.key c.key).2 rfl
    simp only; grind
theorem check_size {c : Chg} (h : checkAns c = 0) : c.key.size ≤ 17 ∧ c.val.size ≤ 64 := by
  unfold checkAns at h
  split at h
  · split at h
    · simp at h
    · omega
  · split at h
    · split at h
      · simp at h
      · omega
    · split at h
      · split at h
        · simp at h
        · omega
      · simp at h
theorem oneP_replace {l : List (K × K)} {c : Chg} (hl : Rises l) (hc : checkAns c = 0) : oneP l c = l.take (pos l (cspan c).1) ++ inOf c ++ l.drop (pos l (cspan c).2) := by
  have hle := cspan_le hc
  refine Rises.ext (rises_oneP c hl) ?_ fun p => ?_
  · rw [(rises_cut hl _).1, (rises_cut hl _).2]
    refine rises_append.2 ⟨rises_append.2 ⟨List.Pairwise.filter _ hl, by unfold inOf; split <;> simp [Rises], fun p hp q hq => ?_⟩, List.Pairwise.filter _ hl, fun p hp q hq => ?_⟩
    · simp at hp
      unfold inOf at hq
      split at hq
      · rename_i hk
        simp at hq; subst hq
        have hp2 := hp.2
        unfold cspan at hp2
        rw [if_neg (by omega)] at hp2
        exact hp2
      · simp at hq
    · simp at hq
      rcases List.mem_append.1 hp with hp | hp
      · simp at hp; have := hp.2; have := hq.2; grind
      · unfold inOf at hp
        split at hp
        · rename_i hk
          simp at hp; subst hp
          have hq2 := hq.2
          have := (key_next c.key c.key).2 rfl
          unfold cspan at hq2
          rw [if_neg (by omega)] at hq2
          simp only at hq2 ⊢; grind
        · simp at hp
  · rw [mem_oneP, List.mem_append, List.mem_append, (rises_cut hl _).1, (rises_cut hl _).2]
    simp only [List.mem_filter, decide_eq_true_eq, Bool.not_eq_true', decide_eq_false_iff_not]
    have hin : p ∈ inOf c ↔ (c.kind = 1 ∧ p = (c.key, c.val)) := by unfold inOf; split <;> simp_all
    rw [hin]
    unfold has
    constructor
    · rintro (⟨h1, h2⟩ | h)
      · by_cases h3 : p.1 < (cspan c).1
        · exact .inl (.inl ⟨h1, h3⟩)
        · exact .inr ⟨h1, fun h4 => h2 ⟨by grind, h4⟩⟩
      · exact .inl (.inr h)
    · rintro ((⟨h1, h2⟩ | h) | ⟨h1, h2⟩)
      · exact .inl ⟨h1, fun h3 => by grind⟩
      · exact .inr h
      · exact .inl ⟨h1, fun h3 => h2 h3.2⟩
theorem pos_mono {l : List (K × K)} {a b : K} (h : a ≤ b) : pos l a ≤ pos l b := by
  unfold pos
  refine List.countP_mono_left fun p _ hp => ?_
  simp at hp ⊢
  grind
theorem allAns_zero : ∀ {cs : List Chg}, allAns cs = 0 ↔ ∀ c ∈ cs, checkAns c = 0
  | [] => by simp [allAns]
  | c :: r => by
    rw [allAns]
    by_cases h : checkAns c = 0
    · rw [if_pos h, allAns_zero]; simp [h]
    · rw [if_neg h]; simp [h]
end Go.Proofs.YtbifnogocmgddaaGreat
namespace Go.Proofs.YtbifnogocmgddaaGreat
open Go.RowKit
attribute [local go_sem] less_eq same_eq le_eq ge_eq gt_eq

set_option maxHeartbeats 8000000 in
set_option maxRecDepth 100000 in
theorem psound_any (l : List (K × K)) (hs : ∀ p ∈ l, p.1.size < 4611686018427387904 ∧ p.2.size < 4611686018427387904) (v : Value) (w : World) (hv : RdP w w.heap.size v l) (hl : l.length < 4611686018427387904) :
    Calls Tryz.prog 90 #[v] w fun e w' => e = .returned (.bool (soundP l)) ∧ Below w.heap.size w w' := by
  obtain ⟨A, c, rfl, hc, hi⟩ := hv.at
  obtain ⟨R, hR⟩ : ∃ R, R = soundP l := ⟨_, rfl⟩
  rw [← hR]
  have HR := Lib.hid hR; clear hR
  have HI := Lib.hid hi; clear hi
  have HS := Lib.hid hs; clear hs
  clear hv
  obtain ⟨g, hg⟩ : ∃ g, g = w.heap.size := ⟨_, rfl⟩
  have HG := Lib.hid hg; clear hg
  go_enter Tryz.func90, Tryz.ntmps90
  go_wp2_with fail
  go_loopw [7] (fun iv wr => ∃ i : Nat, i ≤ l.length ∧ iv = .int .i64 i ∧ Below g w wr ∧ R = okFrom (match i with | 0 => none | j + 1 => (l[j]?).map (·.1)) (l.drop i)) (fun iv _ => l.length - (intOf iv).toNat)
  case atStart => exact ⟨0, Nat.zero_le _, rfl, Below.refl _ _, HR.out⟩
  case round =>
    obtain ⟨i, hil, rfl, hbw, he⟩ := hrel
    have HBW := Lib.hid hbw; clear hbw
    have HE := Lib.hid he; clear he
    by_cases hlt : i < l.length
    · obtain ⟨b, o, rfl, hbB, k0, k1⟩ := HI.out i hlt
      have hsm := HS.out l[i] (List.getElem_mem hlt)
      have hd := HE.out
      rw [List.drop_eq_getElem_cons hlt, okFrom] at hd
      rw [← HBW.out.cell (p := ⟨b, _, none⟩) (by rw [HG.out]; exact hbB)] at k0
      rw [← HBW.out.cell (p := ⟨b, _, none⟩) (by rw [HG.out]; exact hbB)] at k1
      have hnx : some l[i].1 = (l[i]?).map (·.1) := by rw [List.getElem?_eq_getElem hlt]; rfl
      rw [hnx] at hd
      generalize l[i] = p at k0 k1 hsm hd
      obtain ⟨x, y⟩ := p
      clear hnx
      simp only at hd hsm k0 k1
      have hck := fun W => pcheck_any ⟨1, x, y⟩ W (by have := hsm.1; simp only; omega) (by have := hsm.2; simp only; omega)
      unfold cval at hck
      simp only at hck
      have HCP := Lib.hid (fun W => cput_any (x, y) W)
      clear hsm
      rcases i with _ | j
      · simp only [Nat.zero_mul, Nat.add_zero, Nat.zero_add] at hd k0 k1
        have hi1 : (0 : Int) < (l.length : Int) := by omega
        by_cases ha : x.size > 16 ∨ y.size > 64
        · rw [if_pos (by rcases ha with h | h; exact .inl h; exact .inr (.inl h))] at hd
          have HD := Lib.hid hd; clear hd
          have hck2 : checkAns ⟨1, x, y⟩ = 6 := by unfold checkAns; rw [if_pos rfl, if_pos ha]
          rw [hck2] at hck
          have HCK := Lib.hid hck; clear hck hck2
          go_wp2_with fail
          refine wp_region_planB [(true, 0), (false, 1), (false, 2), (true, 3), (true, 4), (true, 5), (true, 6), (true, 7), (true, 8), (true, 9), (true, 10), (true, 11), (true, 12), (true, 13), (true, 14), (true, 15), (true, 16), (true, 17), (true, 18)] (by kernel_rfl) (by kernel_rfl) (fun _ _ d _ _ h => by cases d <;> exact h) ?_
          obtain ⟨w4, hw4⟩ : ∃ w4, w4 = (wr.alloc (.cells #[.string x, .string y] 69)).drew := ⟨_, rfl⟩
          rw [← hw4]
          have hb4 : Below g w w4 := by rw [hw4]; exact (HBW.out.alloc (by rw [HG.out]; exact HBW.out.size) _).drew
          have hG4 : wr.heap.size < w4.heap.size := by rw [hw4]; show _ < (wr.alloc _).heap.size; simp
          have hc4 : ∀ W, Below w4.heap.size w4 W → W.cell? ⟨wr.heap.size, 0, none⟩ = some (.string x) ∧ W.cell? ⟨wr.heap.size, 1, none⟩ = some (.string y) := fun W hW => by
            have e0 : w4.cell? ⟨wr.heap.size, 0, none⟩ = some (.string x) := by rw [hw4]; exact World.cell?_alloc_at _ _ _ _ rfl
            have e1 : w4.cell? ⟨wr.heap.size, 1, none⟩ = some (.string y) := by rw [hw4]; exact World.cell?_alloc_at _ _ _ _ rfl
            exact ⟨(hW.cell (p := ⟨wr.heap.size, 0, none⟩) hG4).trans e0, (hW.cell (p := ⟨wr.heap.size, 1, none⟩) hG4).trans e1⟩
          have HB4 := Lib.hid hb4
          have HC4 := Lib.hid hc4
          clear hb4 hc4 hw4
          obtain ⟨G, hG⟩ : ∃ G, G = wr.heap.size := ⟨_, rfl⟩
          rw [← hG] at HC4 hG4 ⊢
          clear hG
          (refine PlanB.take (v := ?_) rfl rfl ?_ ?_; rotate_left; (focus (intro W hW; obtain ⟨k0, k1⟩ := HC4.out W hW; go_simp; (try with_reducible rfl); done)); (try simp only [Act.put, List.setIfInBounds_toArray, List.set_cons_zero, List.set_cons_succ]))
          refine PlanB.step rfl rfl (fun Kk hK => ?_)
          go_simp
          refine (HCP.out w4).mono ?_
          rintro e w5 ⟨rfl, hb5⟩
          refine hK.out _ _ hb5 ?_
          clear hK Kk
          (try simp only [Act.put, List.setIfInBounds_toArray, List.set_cons_zero, List.set_cons_succ])
          refine PlanB.step rfl rfl (fun Kk hK => ?_)
          go_simp
          refine (HCK.out w5).mono ?_
          rintro e w6 ⟨rfl, hb6⟩
          refine hK.out _ _ hb6 ?_
          clear hK Kk
          (try simp only [Act.put, List.setIfInBounds_toArray, List.set_cons_zero, List.set_cons_succ])
          have HC6 := Lib.hid (fun W (hW : Below w6.heap.size w6 W) => HC4.out W ((hb5.trans (hb6.mono hb5.size)).trans (hW.mono (Nat.le_trans hb5.size hb6.size))))
          have HB6 := Lib.hid (HB4.out.trans ((hb5.trans (hb6.mono hb5.size)).mono (by rw [HG.out]; exact HB4.out.size)))
          clear hb5 hb6 HB4 HC4 hG4
          repeat (first | (refine PlanB.take (v := ?_) rfl rfl ?_ ?_; rotate_left; (focus (intro W hW; obtain ⟨k0, k1⟩ := HC6.out W hW; go_simp; (try with_reducible rfl); done)); (try simp only [Act.put, List.setIfInBounds_toArray, List.set_cons_zero, List.set_cons_succ])) | (refine PlanB.skip rfl rfl ?_; (try simp only [Act.put, List.setIfInBounds_toArray, List.set_cons_zero, List.set_cons_succ])))
          simp only [PlanB]
          go_wp2_with fail
          go_ret
          exact ⟨by rw [HD.out]; rfl, by have h := HB6.out; rwa [HG.out] at h⟩
        have hck2 : checkAns ⟨1, x, y⟩ = 0 := by unfold checkAns; rw [if_pos rfl, if_neg ha]
        rw [hck2] at hck
        have HCK := Lib.hid hck; clear hck hck2
        rw [if_neg (fun h => h.elim (fun h => ha (.inl h)) (fun h => h.elim (fun h => ha (.inr h)) (fun ⟨_, h1, _⟩ => by cases h1)))] at hd
        have HD := Lib.hid hd; clear hd
        clear ha
        go_wp2_with fail
        refine wp_region_planB [(true, 0), (false, 1), (false, 2), (true, 3), (true, 4), (true, 5), (true, 6), (true, 7), (true, 8), (true, 9), (true, 10), (true, 11), (true, 12), (true, 13), (true, 14), (true, 15), (true, 16), (true, 17), (true, 18)] (by kernel_rfl) (by kernel_rfl) (fun _ _ d _ _ h => by cases d <;> exact h) ?_
        obtain ⟨w4, hw4⟩ : ∃ w4, w4 = (wr.alloc (.cells #[.string x, .string y] 69)).drew := ⟨_, rfl⟩
        rw [← hw4]
        have hb4 : Below g w w4 := by rw [hw4]; exact (HBW.out.alloc (by rw [HG.out]; exact HBW.out.size) _).drew
        have hG4 : wr.heap.size < w4.heap.size := by rw [hw4]; show _ < (wr.alloc _).heap.size; simp
        have hc4 : ∀ W, Below w4.heap.size w4 W → W.cell? ⟨wr.heap.size, 0, none⟩ = some (.string x) ∧ W.cell? ⟨wr.heap.size, 1, none⟩ = some (.string y) := fun W hW => by
          have e0 : w4.cell? ⟨wr.heap.size, 0, none⟩ = some (.string x) := by rw [hw4]; exact World.cell?_alloc_at _ _ _ _ rfl
          have e1 : w4.cell? ⟨wr.heap.size, 1, none⟩ = some (.string y) := by rw [hw4]; exact World.cell?_alloc_at _ _ _ _ rfl
          exact ⟨(hW.cell (p := ⟨wr.heap.size, 0, none⟩) hG4).trans e0, (hW.cell (p := ⟨wr.heap.size, 1, none⟩) hG4).trans e1⟩
        have HB4 := Lib.hid hb4
        have HC4 := Lib.hid hc4
        clear hb4 hc4 hw4
        obtain ⟨G, hG⟩ : ∃ G, G = wr.heap.size := ⟨_, rfl⟩
        rw [← hG] at HC4 hG4 ⊢
        clear hG
        (refine PlanB.take (v := ?_) rfl rfl ?_ ?_; rotate_left; (focus (intro W hW; obtain ⟨k0, k1⟩ := HC4.out W hW; go_simp; (try with_reducible rfl); done)); (try simp only [Act.put, List.setIfInBounds_toArray, List.set_cons_zero, List.set_cons_succ]))
        refine PlanB.step rfl rfl (fun Kk hK => ?_)
        go_simp
        refine (HCP.out w4).mono ?_
        rintro e w5 ⟨rfl, hb5⟩
        refine hK.out _ _ hb5 ?_
        clear hK Kk
        (try simp only [Act.put, List.setIfInBounds_toArray, List.set_cons_zero, List.set_cons_succ])
        refine PlanB.step rfl rfl (fun Kk hK => ?_)
        go_simp
        refine (HCK.out w5).mono ?_
        rintro e w6 ⟨rfl, hb6⟩
        refine hK.out _ _ hb6 ?_
        clear hK Kk
        (try simp only [Act.put, List.setIfInBounds_toArray, List.set_cons_zero, List.set_cons_succ])
        have HC6 := Lib.hid (fun W (hW : Below w6.heap.size w6 W) => HC4.out W ((hb5.trans (hb6.mono hb5.size)).trans (hW.mono (Nat.le_trans hb5.size hb6.size))))
        have HB6 := Lib.hid (HB4.out.trans ((hb5.trans (hb6.mono hb5.size)).mono (by rw [HG.out]; exact HB4.out.size)))
        clear hb5 hb6 HB4 HC4 hG4
        repeat (first | (refine PlanB.take (v := ?_) rfl rfl ?_ ?_; rotate_left; (focus (intro W hW; obtain ⟨k0, k1⟩ := HC6.out W hW; go_simp; (try with_reducible rfl); done)); (try simp only [Act.put, List.setIfInBounds_toArray, List.set_cons_zero, List.set_cons_succ])) | (refine PlanB.skip rfl rfl ?_; (try simp only [Act.put, List.setIfInBounds_toArray, List.set_cons_zero, List.set_cons_succ])))
        simp only [PlanB]
        go_wp2_with fail
        go_roundw
        case rel => exact ⟨0 + 1, by omega, by go_num, HB6.out, by rw [HD.out]⟩
        case measure => simp [intOf]; omega
      · obtain ⟨b', o', hA', hb', j0, _⟩ := HI.out j (by omega)
        simp only [Option.some.injEq, Addr.mk.injEq, and_true] at hA'
        obtain ⟨rfl, rfl⟩ := hA'
        have hpv : (l[j]?).map (·.1) = some (l[j]'(by omega)).1 := by rw [List.getElem?_eq_getElem (by omega)]; rfl
        simp only [hpv] at hd
        have hp : ∀ W, Below g w W → W.cell? ⟨b, o + j * 2, none⟩ = some (.string (l[j]'(by omega)).1) := fun W hW => (hW.cell (p := ⟨b, _, none⟩) (by rw [HG.out]; exact hb')).trans j0
        generalize (l[j]'(by omega)).1 = q at hp hd
        have HP := Lib.hid hp
        clear hp j0 hpv
        have hi1 : (j : Int) + 1 < (l.length : Int) := by omega
        have hi0 : (0 : Int) ≤ (j : Int) + 1 := by omega
        have hj1 : (j : Int) < (l.length : Int) := by omega
        have hw1 : IntKind.i64.wrap ((j : Int) + 1 - 1) = (j : Int) := by rw [IntKind.wrap_i64]; omega
        have htn : ((j : Int) + 1).toNat = j + 1 := by omega
        have hjp : (0 : Int) < (j : Int) + 1 := by omega
        have hw2 : IntKind.i64.wrap (j : Int) = (j : Int) := by rw [IntKind.wrap_i64]; omega
        by_cases ha : x.size > 16 ∨ y.size > 64
        · rw [if_pos (by rcases ha with h | h; exact .inl h; exact .inr (.inl h))] at hd
          have HD := Lib.hid hd; clear hd
          have hck2 : checkAns ⟨1, x, y⟩ = 6 := by unfold checkAns; rw [if_pos rfl, if_pos ha]
          rw [hck2] at hck
          have HCK := Lib.hid hck; clear hck hck2
          go_wp2_with fail
          refine wp_region_planB [(true, 0), (false, 1), (false, 2), (true, 3), (true, 4), (true, 5), (true, 6), (true, 7), (true, 8), (true, 9), (true, 10), (true, 11), (true, 12), (true, 13), (true, 14), (true, 15), (true, 16), (true, 17), (true, 18)] (by kernel_rfl) (by kernel_rfl) (fun _ _ d _ _ h => by cases d <;> exact h) ?_
          obtain ⟨w4, hw4⟩ : ∃ w4, w4 = (wr.alloc (.cells #[.string x, .string y] 69)).drew := ⟨_, rfl⟩
          rw [← hw4]
          have hb4 : Below g w w4 := by rw [hw4]; exact (HBW.out.alloc (by rw [HG.out]; exact HBW.out.size) _).drew
          have hG4 : wr.heap.size < w4.heap.size := by rw [hw4]; show _ < (wr.alloc _).heap.size; simp
          have hc4 : ∀ W, Below w4.heap.size w4 W → W.cell? ⟨wr.heap.size, 0, none⟩ = some (.string x) ∧ W.cell? ⟨wr.heap.size, 1, none⟩ = some (.string y) := fun W hW => by
            have e0 : w4.cell? ⟨wr.heap.size, 0, none⟩ = some (.string x) := by rw [hw4]; exact World.cell?_alloc_at _ _ _ _ rfl
            have e1 : w4.cell? ⟨wr.heap.size, 1, none⟩ = some (.string y) := by rw [hw4]; exact World.cell?_alloc_at _ _ _ _ rfl
            exact ⟨(hW.cell (p := ⟨wr.heap.size, 0, none⟩) hG4).trans e0, (hW.cell (p := ⟨wr.heap.size, 1, none⟩) hG4).trans e1⟩
          have HB4 := Lib.hid hb4
          have HC4 := Lib.hid hc4
          clear hb4 hc4 hw4
          obtain ⟨G, hG⟩ : ∃ G, G = wr.heap.size := ⟨_, rfl⟩
          rw [← hG] at HC4 hG4 ⊢
          clear hG
          (refine PlanB.take (v := ?_) rfl rfl ?_ ?_; rotate_left; (focus (intro W hW; obtain ⟨k0, k1⟩ := HC4.out W hW; go_simp; (try with_reducible rfl); done)); (try simp only [Act.put, List.setIfInBounds_toArray, List.set_cons_zero, List.set_cons_succ]))
          refine PlanB.step rfl rfl (fun Kk hK => ?_)
          go_simp
          refine (HCP.out w4).mono ?_
          rintro e w5 ⟨rfl, hb5⟩
          refine hK.out _ _ hb5 ?_
          clear hK Kk
          (try simp only [Act.put, List.setIfInBounds_toArray, List.set_cons_zero, List.set_cons_succ])
          refine PlanB.step rfl rfl (fun Kk hK => ?_)
          go_simp
          refine (HCK.out w5).mono ?_
          rintro e w6 ⟨rfl, hb6⟩
          refine hK.out _ _ hb6 ?_
          clear hK Kk
          (try simp only [Act.put, List.setIfInBounds_toArray, List.set_cons_zero, List.set_cons_succ])
          have HC6 := Lib.hid (fun W (hW : Below w6.heap.size w6 W) => HC4.out W ((hb5.trans (hb6.mono hb5.size)).trans (hW.mono (Nat.le_trans hb5.size hb6.size))))
          have HB6 := Lib.hid (HB4.out.trans ((hb5.trans (hb6.mono hb5.size)).mono (by rw [HG.out]; exact HB4.out.size)))
          have HP6 := Lib.hid (fun W (hW : Below w6.heap.size w6 W) => HP.out W (HB6.out.trans (hW.mono (by rw [HG.out]; exact HB6.out.size))))
          clear hb5 hb6 HB4 HC4 hG4
          repeat (first | (refine PlanB.take (v := ?_) rfl rfl ?_ ?_; rotate_left; (focus (intro W hW; obtain ⟨k0, k1⟩ := HC6.out W hW; go_simp; (try with_reducible rfl); done)); (try simp only [Act.put, List.setIfInBounds_toArray, List.set_cons_zero, List.set_cons_succ])) | (refine PlanB.skip rfl rfl ?_; (try simp only [Act.put, List.setIfInBounds_toArray, List.set_cons_zero, List.set_cons_succ])))
          simp only [PlanB]
          go_wp2_with fail
          go_ret
          exact ⟨by rw [HD.out]; rfl, by have h := HB6.out; rwa [HG.out] at h⟩
        have hck2 : checkAns ⟨1, x, y⟩ = 0 := by unfold checkAns; rw [if_pos rfl, if_neg ha]
        rw [hck2] at hck
        have HCK := Lib.hid hck; clear hck hck2
        by_cases hq : x ≤ q
        · rw [if_pos (.inr (.inr ⟨q, rfl, hq⟩))] at hd
          have HD := Lib.hid hd; clear hd
          have HQ1 := Lib.hid hq; clear hq
          go_wp2_with fail
          refine wp_region_planB [(true, 0), (false, 1), (false, 2), (true, 3), (true, 4), (true, 5), (true, 6), (true, 7), (true, 8), (true, 9), (true, 10), (true, 11), (true, 12), (true, 13), (true, 14), (true, 15), (true, 16), (true, 17), (true, 18)] (by kernel_rfl) (by kernel_rfl) (fun _ _ d _ _ h => by cases d <;> exact h) ?_
          obtain ⟨w4, hw4⟩ : ∃ w4, w4 = (wr.alloc (.cells #[.string x, .string y] 69)).drew := ⟨_, rfl⟩
          rw [← hw4]
          have hb4 : Below g w w4 := by rw [hw4]; exact (HBW.out.alloc (by rw [HG.out]; exact HBW.out.size) _).drew
          have hG4 : wr.heap.size < w4.heap.size := by rw [hw4]; show _ < (wr.alloc _).heap.size; simp
          have hc4 : ∀ W, Below w4.heap.size w4 W → W.cell? ⟨wr.heap.size, 0, none⟩ = some (.string x) ∧ W.cell? ⟨wr.heap.size, 1, none⟩ = some (.string y) := fun W hW => by
            have e0 : w4.cell? ⟨wr.heap.size, 0, none⟩ = some (.string x) := by rw [hw4]; exact World.cell?_alloc_at _ _ _ _ rfl
            have e1 : w4.cell? ⟨wr.heap.size, 1, none⟩ = some (.string y) := by rw [hw4]; exact World.cell?_alloc_at _ _ _ _ rfl
            exact ⟨(hW.cell (p := ⟨wr.heap.size, 0, none⟩) hG4).trans e0, (hW.cell (p := ⟨wr.heap.size, 1, none⟩) hG4).trans e1⟩
          have HB4 := Lib.hid hb4
          have HC4 := Lib.hid hc4
          clear hb4 hc4 hw4
          obtain ⟨G, hG⟩ : ∃ G, G = wr.heap.size := ⟨_, rfl⟩
          rw [← hG] at HC4 hG4 ⊢
          clear hG
          (refine PlanB.take (v := ?_) rfl rfl ?_ ?_; rotate_left; (focus (intro W hW; obtain ⟨k0, k1⟩ := HC4.out W hW; go_simp; (try with_reducible rfl); done)); (try simp only [Act.put, List.setIfInBounds_toArray, List.set_cons_zero, List.set_cons_succ]))
          refine PlanB.step rfl rfl (fun Kk hK => ?_)
          go_simp
          refine (HCP.out w4).mono ?_
          rintro e w5 ⟨rfl, hb5⟩
          refine hK.out _ _ hb5 ?_
          clear hK Kk
          (try simp only [Act.put, List.setIfInBounds_toArray, List.set_cons_zero, List.set_cons_succ])
          refine PlanB.step rfl rfl (fun Kk hK => ?_)
          go_simp
          refine (HCK.out w5).mono ?_
          rintro e w6 ⟨rfl, hb6⟩
          refine hK.out _ _ hb6 ?_
          clear hK Kk
          (try simp only [Act.put, List.setIfInBounds_toArray, List.set_cons_zero, List.set_cons_succ])
          have HC6 := Lib.hid (fun W (hW : Below w6.heap.size w6 W) => HC4.out W ((hb5.trans (hb6.mono hb5.size)).trans (hW.mono (Nat.le_trans hb5.size hb6.size))))
          have HB6 := Lib.hid (HB4.out.trans ((hb5.trans (hb6.mono hb5.size)).mono (by rw [HG.out]; exact HB4.out.size)))
          have HP6 := Lib.hid (fun W (hW : Below w6.heap.size w6 W) => HP.out W (HB6.out.trans (hW.mono (by rw [HG.out]; exact HB6.out.size))))
          clear hb5 hb6 HB4 HC4 hG4
          repeat (first | (refine PlanB.take (v := ?_) rfl rfl ?_ ?_; rotate_left; (focus (intro W hW; obtain ⟨k0, k1⟩ := HC6.out W hW; have k2 := HP6.out W hW; have k5 := HQ1.out; go_simp; (try with_reducible rfl); done)); (try simp only [Act.put, List.setIfInBounds_toArray, List.set_cons_zero, List.set_cons_succ])) | (refine PlanB.skip rfl rfl ?_; (try simp only [Act.put, List.setIfInBounds_toArray, List.set_cons_zero, List.set_cons_succ])))
          simp only [PlanB]
          go_wp2_with fail
          go_ret
          exact ⟨by rw [HD.out]; rfl, by have h := HB6.out; rwa [HG.out] at h⟩
        rw [if_neg (fun h => h.elim (fun h => ha (.inl h)) (fun h => h.elim (fun h => ha (.inr h)) (fun ⟨_, h1, h2⟩ => hq (by cases h1; exact h2))))] at hd
        have HD := Lib.hid hd; clear hd
        have HQ1 := Lib.hid hq; clear hq
        clear ha
        go_wp2_with fail
        refine wp_region_planB [(true, 0), (false, 1), (false, 2), (true, 3), (true, 4), (true, 5), (true, 6), (true, 7), (true, 8), (true, 9), (true, 10), (true, 11), (true, 12), (true, 13), (true, 14), (true, 15), (true, 16), (true, 17), (true, 18)] (by kernel_rfl) (by kernel_rfl) (fun _ _ d _ _ h => by cases d <;> exact h) ?_
        obtain ⟨w4, hw4⟩ : ∃ w4, w4 = (wr.alloc (.cells #[.string x, .string y] 69)).drew := ⟨_, rfl⟩
        rw [← hw4]
        have hb4 : Below g w w4 := by rw [hw4]; exact (HBW.out.alloc (by rw [HG.out]; exact HBW.out.size) _).drew
        have hG4 : wr.heap.size < w4.heap.size := by rw [hw4]; show _ < (wr.alloc _).heap.size; simp
        have hc4 : ∀ W, Below w4.heap.size w4 W → W.cell? ⟨wr.heap.size, 0, none⟩ = some (.string x) ∧ W.cell? ⟨wr.heap.size, 1, none⟩ = some (.string y) := fun W hW => by
          have e0 : w4.cell? ⟨wr.heap.size, 0, none⟩ = some (.string x) := by rw [hw4]; exact World.cell?_alloc_at _ _ _ _ rfl
          have e1 : w4.cell? ⟨wr.heap.size, 1, none⟩ = some (.string y) := by rw [hw4]; exact World.cell?_alloc_at _ _ _ _ rfl
          exact ⟨(hW.cell (p := ⟨wr.heap.size, 0, none⟩) hG4).trans e0, (hW.cell (p := ⟨wr.heap.size, 1, none⟩) hG4).trans e1⟩
        have HB4 := Lib.hid hb4
        have HC4 := Lib.hid hc4
        clear hb4 hc4 hw4
        obtain ⟨G, hG⟩ : ∃ G, G = wr.heap.size := ⟨_, rfl⟩
        rw [← hG] at HC4 hG4 ⊢
        clear hG
        (refine PlanB.take (v := ?_) rfl rfl ?_ ?_; rotate_left; (focus (intro W hW; obtain ⟨k0, k1⟩ := HC4.out W hW; go_simp; (try with_reducible rfl); done)); (try simp only [Act.put, List.setIfInBounds_toArray, List.set_cons_zero, List.set_cons_succ]))
        refine PlanB.step rfl rfl (fun Kk hK => ?_)
        go_simp
        refine (HCP.out w4).mono ?_
        rintro e w5 ⟨rfl, hb5⟩
        refine hK.out _ _ hb5 ?_
        clear hK Kk
        (try simp only [Act.put, List.setIfInBounds_toArray, List.set_cons_zero, List.set_cons_succ])
        refine PlanB.step rfl rfl (fun Kk hK => ?_)
        go_simp
        refine (HCK.out w5).mono ?_
        rintro e w6 ⟨rfl, hb6⟩
        refine hK.out _ _ hb6 ?_
        clear hK Kk
        (try simp only [Act.put, List.setIfInBounds_toArray, List.set_cons_zero, List.set_cons_succ])
        have HC6 := Lib.hid (fun W (hW : Below w6.heap.size w6 W) => HC4.out W ((hb5.trans (hb6.mono hb5.size)).trans (hW.mono (Nat.le_trans hb5.size hb6.size))))
        have HB6 := Lib.hid (HB4.out.trans ((hb5.trans (hb6.mono hb5.size)).mono (by rw [HG.out]; exact HB4.out.size)))
        have HP6 := Lib.hid (fun W (hW : Below w6.heap.size w6 W) => HP.out W (HB6.out.trans (hW.mono (by rw [HG.out]; exact HB6.out.size))))
        clear hb5 hb6 HB4 HC4 hG4
        repeat (first | (refine PlanB.take (v := ?_) rfl rfl ?_ ?_; rotate_left; (focus (intro W hW; obtain ⟨k0, k1⟩ := HC6.out W hW; have k2 := HP6.out W hW; have k5 := HQ1.out; go_simp; (try with_reducible rfl); done)); (try simp only [Act.put, List.setIfInBounds_toArray, List.set_cons_zero, List.set_cons_succ])) | (refine PlanB.skip rfl rfl ?_; (try simp only [Act.put, List.setIfInBounds_toArray, List.set_cons_zero, List.set_cons_succ])))
        simp only [PlanB]
        go_wp2_with fail
        go_roundw
        case rel => exact ⟨j + 1 + 1, by omega, by go_num, HB6.out, by rw [HD.out]⟩
        case measure => simp [intOf]; omega
    · have hd := HE.out
      rw [List.drop_eq_nil_of_le (by omega), okFrom] at hd
      have HD := Lib.hid hd; clear hd
      go_wp2_with fail
      go_ret
      exact ⟨by rw [HD.out]; rfl, by have h := HBW.out; rwa [HG.out] at h⟩
end Go.Proofs.YtbifnogocmgddaaGreat
