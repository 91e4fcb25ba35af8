/- The small functions of the change layer: Check, put, wipe, single, reach, first. -/
import Derived.Test.YtgppgecglkellaaGreatFac
import Derived.Test.YtgppgecglkellaaGreatFae
namespace Go.Proofs.YtgppgecglkellaaGreat
open Go.RowKit
attribute [local go_sem] less_eq same_eq le_eq ge_eq gt_eq

theorem put_two (w : World) (G : Nat) (x y : Value) {a b : Value} (h0 : w.cell? ⟨G, 0, none⟩ = some a) (h1 : w.cell? ⟨G, 1, none⟩ = some b) (_z0 : w.frozen? ⟨G, 0, none⟩ = false) (z1 : w.frozen? ⟨G, 1, none⟩ = false) :
    (w.setCell ⟨G, 0, none⟩ x).cell? ⟨G, 1, none⟩ = some b ∧ (w.setCell ⟨G, 0, none⟩ x).frozen? ⟨G, 1, none⟩ = false ∧
    ((w.setCell ⟨G, 0, none⟩ x).setCell ⟨G, 1, none⟩ y).cell? ⟨G, 0, none⟩ = some x ∧ ((w.setCell ⟨G, 0, none⟩ x).setCell ⟨G, 1, none⟩ y).cell? ⟨G, 1, none⟩ = some y := by
  have e : (⟨G, 0, none⟩ : Addr) ≠ ⟨G, 1, none⟩ := by simp
  have k1 := (World.cell?_setCell_other w ⟨G, 0, none⟩ ⟨G, 1, none⟩ x e).trans h1
  refine ⟨k1, ?_, ?_, World.cell?_setCell_same _ _ _ k1⟩
  · rw [World.frozen?_setCell]; exact z1
  · exact (World.cell?_setCell_other _ ⟨G, 1, none⟩ ⟨G, 0, none⟩ y (Ne.symm e)).trans (World.cell?_setCell_same _ _ _ h0)

def put3 (p : K × K) : Value := .agg #[.int .i64 1, .string p.1, .string p.2]
def wipe3 (s : K × K) : Value := .agg #[.int .i64 3, .string s.1, .string s.2]
set_option maxHeartbeats 1000000 in
set_option maxRecDepth 100000 in
set_option maxHeartbeats 1000000 in
set_option maxRecDepth 100000 in
set_option maxHeartbeats 1000000 in
set_option maxRecDepth 100000 in
theorem single_any (k : K) (w : World) (hk : k.size < 4611686018427387904) : Calls Tryz.prog 82 #[.string k] w fun e w' => e = .returned (.agg #[.string k, .string (k ++ ⟨#[0]⟩)]) ∧ Below w.heap.size w w' := by
  have hn := fun W => next_any k W (by omega)
  go_enter Tryz.func82, Tryz.ntmps82
  go_wp2_with (go_at_call 101; refine (hn _).mono ?_; rintro e w' ⟨rfl, rfl⟩)
  refine bodyPost_ret (v := .agg #[.string k, .string (k ++ ⟨#[0]⟩)]) (by simp [results, Tryz.results82, go_sem]) rfl ⟨rfl, ?_⟩
  ((repeat' (first | exact Below.refl _ _ | refine Below.alloc ?_ ?_ _ | refine Below.setCell ?_ ?_ _ | refine Below.drew ?_)); all_goals ((try simp only [World.size_alloc]); omega))

set_option maxHeartbeats 4000000 in
set_option maxRecDepth 100000 in
theorem pcheck_any (c : Chg) (w : World) (hk : c.key.size < 9223372036854775807) (hv : c.val.size < 9223372036854775807) : Calls Tryz.prog 64 #[cval c] w fun e w' => e = .returned (.int .i64 (checkAns c)) ∧ Below w.heap.size w w' := by
  obtain ⟨k, x, y⟩ := c
  obtain ⟨R, hR⟩ : ∃ R, R = checkAns ⟨k, x, y⟩ := ⟨_, rfl⟩
  rw [← hR]
  unfold checkAns at hR
  unfold cval
  simp only at hR hk hv ⊢
  have HB := Lib.hid (((Below.refl _ w).alloc (Nat.le_refl _) (.cells #[.int .i64 k, .string x, .string y] 58)))
  by_cases h1 : k = 1
  · rw [if_pos h1] at hR
    subst h1
    by_cases ha : x.size > 16
    · rw [if_pos (.inl ha)] at hR
      have HR := Lib.hid hR; clear hR
      have ha1 : (16 : Int) < (x.size : Int) := by omega
      go_enter Tryz.func64, Tryz.ntmps64
      go_wp2_with fail
      go_ret
      exact ⟨by rw [HR.out]; rfl, HB.out⟩
    have ha1 : ¬ (16 : Int) < (x.size : Int) := by omega
    by_cases hb : y.size > 64
    · rw [if_pos (.inr hb)] at hR
      have HR := Lib.hid hR; clear hR
      have hb1 : (64 : Int) < (y.size : Int) := by omega
      go_enter Tryz.func64, Tryz.ntmps64
      go_wp2_with fail
      go_ret
      exact ⟨by rw [HR.out]; rfl, HB.out⟩
    rw [if_neg (by omega)] at hR
    have hb1 : ¬ (64 : Int) < (y.size : Int) := by omega
    have HR := Lib.hid hR; clear hR
    go_enter Tryz.func64, Tryz.ntmps64
    go_wp2_with fail
    go_ret
    exact ⟨by rw [HR.out]; rfl, HB.out⟩
  by_cases h2 : k = 2
  · rw [if_neg h1, if_pos h2] at hR
    subst h2
    clear h1
    by_cases hb : y = ⟨#[]⟩
    · subst hb
      by_cases ha : x.size > 16
      · rw [if_pos (.inl ha)] at hR
        have HR := Lib.hid hR; clear hR
        have ha1 : (16 : Int) < (x.size : Int) := by omega
        go_enter Tryz.func64, Tryz.ntmps64
        go_wp2_with fail
        go_ret
        exact ⟨by rw [HR.out]; rfl, HB.out⟩
      have ha1 : ¬ (16 : Int) < (x.size : Int) := by omega
      rw [if_neg (by have h0 : (⟨#[]⟩ : ByteArray).size = 0 := rfl
                     omega)] at hR
      have HR := Lib.hid hR; clear hR
      go_enter Tryz.func64, Tryz.ntmps64
      go_wp2_with fail
      go_ret
      exact ⟨by rw [HR.out]; rfl, HB.out⟩
    · have hy : y.size > 0 := by
        rcases Nat.eq_zero_or_pos y.size with h | h
        · exact absurd (ByteArray.ext (Array.eq_empty_of_size_eq_zero h)) hb
        · exact h
      have hne : (ByteArray.toList y).isEmpty = false := by
        rw [Lib.toList_data]
        cases hd : y.data.toList with
        | nil => exact absurd (ByteArray.ext (Array.toList_eq_nil_iff.1 hd)) hb
        | cons a r => rfl
      rw [if_pos (.inr hy)] at hR
      have HR := Lib.hid hR; clear hR
      go_enter Tryz.func64, Tryz.ntmps64
      go_wp2_with fail
      go_ret
      exact ⟨by rw [HR.out]; rfl, HB.out⟩
  by_cases h3 : k = 3
  · rw [if_neg h1, if_neg h2, if_pos h3] at hR
    subst h3
    clear h1 h2
    by_cases ha : x.size > 17
    · rw [if_pos (.inl ha)] at hR
      have HR := Lib.hid hR; clear hR
      have ha1 : (17 : Int) < (x.size : Int) := by omega
      go_enter Tryz.func64, Tryz.ntmps64
      go_wp2_with fail
      go_ret
      exact ⟨by rw [HR.out]; rfl, HB.out⟩
    have ha1 : ¬ (17 : Int) < (x.size : Int) := by omega
    by_cases hb : y.size > 17
    · rw [if_pos (.inr hb)] at hR
      have HR := Lib.hid hR; clear hR
      have hb1 : (17 : Int) < (y.size : Int) := by omega
      go_enter Tryz.func64, Tryz.ntmps64
      go_wp2_with fail
      go_ret
      exact ⟨by rw [HR.out]; rfl, HB.out⟩
    rw [if_neg (by omega)] at hR
    have hb1 : ¬ (17 : Int) < (y.size : Int) := by omega
    by_cases hl : y < x
    · rw [if_pos hl] at hR
      have HR := Lib.hid hR; clear hR
      go_enter Tryz.func64, Tryz.ntmps64
      go_wp2_with fail
      go_ret
      exact ⟨by rw [HR.out]; rfl, HB.out⟩
    rw [if_neg hl] at hR
    have HR := Lib.hid hR; clear hR
    go_enter Tryz.func64, Tryz.ntmps64
    go_wp2_with fail
    go_ret
    exact ⟨by rw [HR.out]; rfl, HB.out⟩
  rw [if_neg h1, if_neg h2, if_neg h3] at hR
  have HR := Lib.hid hR; clear hR
  go_enter Tryz.func64, Tryz.ntmps64
  go_wp2_with fail
  go_ret
  exact ⟨by rw [HR.out]; rfl, HB.out⟩

set_option maxHeartbeats 1000000 in
set_option maxRecDepth 100000 in
theorem reach_any (c : Chg) (w : World) (hk : c.key.size < 4611686018427387904) : Calls Tryz.prog 65 #[cval c] w fun e w' => e = .returned (spv (cspan c)) ∧ Below w.heap.size w w' := by
  obtain ⟨k, x, y⟩ := c
  unfold cval cspan spv
  simp only at hk ⊢
  by_cases h3 : k = 3
  · subst h3
    rw [if_pos rfl]
    go_enter Tryz.func65, Tryz.ntmps65
    go_wp2_with fail
    refine bodyPost_ret (v := .agg #[.string x, .string y]) (by simp [results, Tryz.results65, go_sem]) rfl ⟨rfl, ?_⟩
    ((repeat' (first | exact Below.refl _ _ | refine Below.alloc ?_ ?_ _ | refine Below.setCell ?_ ?_ _ | refine Below.drew ?_)); all_goals ((try simp only [World.size_alloc]); omega))
  · rw [if_neg h3]
    have hs := fun W => single_any x W hk
    have HB := Lib.hid (((Below.refl _ w).alloc (Nat.le_refl _) (.cells #[.int .i64 k, .string x, .string y] 58)).alloc (by simp) (.cells #[.string ⟨#[]⟩, .string ⟨#[]⟩] 52))
    go_enter Tryz.func65, Tryz.ntmps65
    go_wp2_with fail
    refine (hs _).mono ?_
    rintro e w1 ⟨rfl, hb1⟩
    have hlt : w.heap.size + 1 < w1.heap.size := by have := hb1.size; simp at this; omega
    have k0 : w1.cell? ⟨w.heap.size + 1, 0, none⟩ = some (.string ⟨#[]⟩) := by
      rw [hb1.cell (p := ⟨w.heap.size + 1, 0, none⟩) (by simp)]
      exact World.cell?_alloc_at _ _ _ _ (by simp)
    have k1 : w1.cell? ⟨w.heap.size + 1, 1, none⟩ = some (.string ⟨#[]⟩) := by
      rw [hb1.cell (p := ⟨w.heap.size + 1, 1, none⟩) (by simp)]
      exact World.cell?_alloc_at _ _ _ _ (by simp)
    have f0 : ∀ j, w1.frozen? ⟨w.heap.size + 1, j, none⟩ = false := fun j => by
      rw [hb1.frozen (p := ⟨w.heap.size + 1, j, none⟩) (by simp), frozen?_alloc_cells]
      simp [World.frozen?]
    have f1 := f0 0
    have f2 := f0 1
    obtain ⟨e0, e1, e2, e3⟩ := put_two w1 (w.heap.size + 1) (.string x) (.string (x ++ ⟨#[0]⟩)) k0 k1 f1 f2
    have HB1 := Lib.hid (show Below w.heap.size w w1 from HB.out.trans (hb1.mono (by simp; omega))); clear hb1
    clear f0
    go_wp2_with fail
    refine bodyPost_ret (v := .agg #[.string x, .string (x ++ ⟨#[0]⟩)]) (by simp [results, Tryz.results65, go_sem, e2, e3]) rfl ⟨rfl, ?_⟩
    exact (HB1.out.setCell (by simp) _).setCell (by simp) _

set_option maxHeartbeats 1000000 in
set_option maxRecDepth 100000 in
theorem first_any (l : List Chg) (hs : ∀ c ∈ l, smallC c) (v : Value) (w : World) (hv : RdC w w.heap.size v l) (hl : l.length < 4611686018427387904) :
    Calls Tryz.prog 46 #[v] w fun e w' => e = .returned (.int .i64 (allAns l)) ∧ Below w.heap.size w w' := by
  obtain ⟨A, c, rfl, hc, hi⟩ := hv.at
  obtain ⟨R, hR⟩ : ∃ R, R = allAns l := ⟨_, rfl⟩
  rw [← hR]
  have HR := Lib.hid hR; clear hR
  have HI := Lib.hid hi; clear hi
  have HS := Lib.hid hs; clear hs
  clear hv
  obtain ⟨g, hg⟩ : ∃ g, g = w.heap.size := ⟨_, rfl⟩
  have HG := Lib.hid hg; clear hg
  go_enter Tryz.func46, Tryz.ntmps46
  go_wp2_with fail
  go_loopw [8] (fun iv wr => ∃ i : Nat, i ≤ l.length ∧ iv = .int .i64 i ∧ Below g w wr ∧ R = allAns (l.drop i)) (fun iv _ => l.length - (intOf iv).toNat)
  case atStart => exact ⟨0, Nat.zero_le _, rfl, Below.refl _ _, HR.out⟩
  case round =>
    obtain ⟨i, hil, rfl, hbw, he⟩ := hrel
    have HBW := Lib.hid hbw; clear hbw
    have HE := Lib.hid he; clear he
    by_cases hlt : i < l.length
    · obtain ⟨b, o, rfl, hbB, k0, k1, k2⟩ := HI.out i hlt
      have hsm := HS.out l[i] (List.getElem_mem hlt)
      have hd := HE.out
      rw [List.drop_eq_getElem_cons hlt, allAns] at hd
      rw [← HBW.out.cell (p := ⟨b, o + i * 3, none⟩) (by rw [HG.out]; exact hbB)] at k0
      rw [← HBW.out.cell (p := ⟨b, o + i * 3 + 1, none⟩) (by rw [HG.out]; exact hbB)] at k1
      rw [← HBW.out.cell (p := ⟨b, o + i * 3 + 2, none⟩) (by rw [HG.out]; exact hbB)] at k2
      generalize l[i] = z at k0 k1 k2 hsm hd
      have hck := fun W => pcheck_any z W (by have := hsm.1; omega) (by have := hsm.2; omega)
      unfold cval at hck
      generalize checkAns z = q at hck hd
      obtain ⟨kz, xz, yz⟩ := z
      simp only at k0 k1 k2 hck
      have HD := Lib.hid hd
      have HK := Lib.hid hck
      clear hd hck hsm
      go_wp2_with fail
      refine (HK.out _).mono ?_
      rintro e w2 ⟨rfl, hb2⟩
      have HW2 := Lib.hid (show Below g w w2 from (HBW.out.alloc (by rw [HG.out]; have := HBW.out.size; omega) _).trans (hb2.mono (by rw [HG.out, World.size_alloc]; have := HBW.out.size; omega)))
      clear hb2 k0 k1 k2
      by_cases hq : q = 0
      · subst hq
        have hd := HD.out
        rw [if_pos rfl] at hd
        have HD2 := Lib.hid hd; clear hd
        go_wp2_with fail
        go_roundw
        case rel => exact ⟨i + 1, by omega, by go_num, HW2.out, HD2.out⟩
        case measure => simp [intOf]; omega
      · have hd := HD.out
        rw [if_neg hq] at hd
        have HD2 := Lib.hid hd; clear hd
        go_wp2_with fail
        go_ret
        exact ⟨by rw [HD2.out]; rfl, by have h := HW2.out; rwa [HG.out] at h⟩
    · have hd := HE.out
      rw [List.drop_eq_nil_of_le (by omega), allAns] at hd
      have HD := Lib.hid hd; clear hd
      go_wp2_with fail
      go_ret
      exact ⟨by rw [HD.out]; rfl, by have h := HBW.out; rwa [HG.out] at h⟩
end Go.Proofs.YtgppgecglkellaaGreat
