/- What the small functions of the span layer and of its reference answer: contracts, each for every argument and every world. -/
import Derived.Test.YtmfpidihcjnnkaaRows
import Derived.Test.YtmfpidihcjnnkaaKeys
import Derived.WalkKit
import Derived.WalkSpells
import Derived.WalkLawsBesides
import Derived.Lib.Hide
import Derived.Sort.Walk0
import Derived.Lib.MinMaxS
namespace Go.Proofs.Ytmfpidihcjnnkaa
open Go.RowKit

theorem less_eq (a b : ByteArray) : Op.bytesLess a.toList b.toList = decide (a < b) := by
  rw [bytesLess_eq, Lib.toList_data, Lib.toList_data]; rfl
theorem same_eq (a b : ByteArray) : (a.toList == b.toList) = decide (a = b) := by
  rw [Bool.eq_iff_iff, beq_iff_eq, decide_eq_true_iff, Lib.toList_data, Lib.toList_data]
  exact ⟨key_ext, fun h => by rw [h]⟩
theorem le_eq (a b : ByteArray) : (decide (a < b) || decide (a = b)) = decide (a ≤ b) := by
  rw [Bool.eq_iff_iff]; simp; grind
theorem ge_eq (a b : ByteArray) : (!decide (a < b)) = decide (b ≤ a) := by
  rw [Bool.eq_iff_iff]; simp; grind
theorem gt_eq (a b : ByteArray) : (!decide (a ≤ b)) = decide (b < a) := by
  rw [Bool.eq_iff_iff]; simp; grind
attribute [local go_sem] less_eq same_eq le_eq ge_eq gt_eq

set_option maxHeartbeats 400000 in
theorem empty_any (s : K × K) (w : World) : Calls Try.prog 14 #[.agg #[.string s.1, .string s.2]] w fun e w' => e = .returned (.bool (decide (s.2 ≤ s.1))) ∧ Below w.heap.size w w' := by
  go_enter Try.func14, Try.ntmps14
  go_wp2
  go_ret
  exact ⟨rfl, (Below.refl _ _).alloc (Nat.le_refl _) _⟩

set_option maxHeartbeats 400000 in
theorem has_any (s : K × K) (k : K) (w : World) : Calls Try.prog 12 #[.agg #[.string s.1, .string s.2], .string k] w fun e w' => e = .returned (.bool (decide (s.1 ≤ k) && decide (k < s.2))) ∧ Below w.heap.size w w' := by
  by_cases h : s.1 ≤ k
  all_goals
    go_enter Try.func12, Try.ntmps12
    go_wp2
    go_ret
    exact ⟨by simp [h], (Below.refl _ _).alloc (Nat.le_refl _) _⟩

set_option maxHeartbeats 400000 in
theorem rhas_any (s : K × K) (k : K) (w : World) : Calls Try.prog 13 #[.agg #[.string s.1, .string s.2], .string k] w fun e w' => e = .returned (.bool (decide (s.1 ≤ k) && decide (k < s.2))) ∧ Below w.heap.size w w' := by
  by_cases h : s.1 ≤ k
  all_goals
    go_enter Try.func13, Try.ntmps13
    go_wp2
    go_ret
    exact ⟨by simp [h], (Below.refl _ _).alloc (Nat.le_refl _) _⟩

/-- cmp.Compare at texts -/
def cmpKey (a b : K) : Int := if a < b then -1 else if b < a then 1 else 0
set_option maxHeartbeats 400000 in
theorem compare_any (a b : K) (w : World) : Calls Try.prog 31 #[.string a, .string b] w fun e w' => e = .returned (.int .i64 (cmpKey a b)) ∧ w' = w := by
  by_cases h1 : a < b
  · go_enter Try.func31, Try.ntmps31
    go_wp2
    go_ret
    exact ⟨by simp [cmpKey, h1], rfl⟩
  · by_cases h2 : a = b
    · subst h2
      go_enter Try.func31, Try.ntmps31
      go_wp2
      go_ret
      exact ⟨by simp [cmpKey, h1], rfl⟩
    · have h3 : b < a := by grind
      go_enter Try.func31, Try.ntmps31
      go_wp2
      go_ret
      exact ⟨by simp [cmpKey, h1, h3], rfl⟩

set_option maxHeartbeats 400000 in
theorem next_any (k : K) (w : World) (hk : k.size < 9223372036854775807) : Calls Try.prog 15 #[.string k] w fun e w' => e = .returned (.string (k ++ ⟨#[0]⟩)) ∧ w' = w := by
  go_enter Try.func15, Try.ntmps15
  go_wp2
  go_ret
  exact ⟨rfl, rfl⟩

/-- how many of the first bytes are left, if those of 255 at the end are cut off -/
def low (s : ByteArray) : Nat → Nat
  | 0 => 0
  | n + 1 => if h : n < s.size then (if s[n] = 255 then low s n else n + 1) else low s n
/-- the text above all that begin with one, if its first n bytes end in none of 255 -/
def above (s : ByteArray) (n : Nat) : ByteArray := s.extract 0 (n - 1) ++ ⟨#[s[n - 1]! + 1]⟩
def behindAns (s : ByteArray) : Value := .tuple (if low s s.size = 0 then #[.string ⟨#[]⟩, .int .i64 4] else #[.string (above s (low s s.size)), .int .i64 0])

theorem byte_text (c : UInt8) (hc : c ≠ 255) (w : World) (n : Int) (hn : n = (c.toNat : Int) + 1) : (convert 45 9 (.slice (some ⟨w.heap.size, 0, none⟩) 1 1)).run Try.prog (w.alloc (.cells #[.int .u8 n] 5)).drew =
    .ok (.string ⟨#[c + 1]⟩) (w.alloc (.cells #[.int .u8 n] 5)).drew := by
  have hlt : c.toNat + 1 < 256 := by
    have h1 := c.toNat_lt
    have h2 : c.toNat ≠ 255 := fun h => hc (UInt8.toNat_inj.1 (by simpa using h))
    omega
  have h := run_convert_bytes_back (P := Try.prog) (w.alloc (.cells #[.int .u8 n] 5)).drew 45 9 5 ⟨w.heap.size, 0, none⟩ 1 [c + 1] Try.underlying45 Try.underlying5 Try.underlying9 (fun j hj => by
    obtain rfl : j = 0 := by simpa using hj
    have e : ((c + 1).toNat : Int) = n := by rw [hn, UInt8.toNat_add]; simp; omega
    rw [show [c + 1][0] = c + 1 from rfl, e]
    exact cell_one_new w _ _ 0 _ rfl)
  simpa using h

set_option maxHeartbeats 400000 in
set_option maxRecDepth 100000 in
theorem behind_any (s : ByteArray) (w : World) (hs : s.size < 9223372036854775807) : Calls Try.prog 16 #[.string s] w fun e w' =>
    e = .returned (behindAns s) ∧ Below w.heap.size w w' := by
  go_enter Try.func16, Try.ntmps16
  go_wp2
  go_loop [4] (fun v => ∃ (j : Nat) (i : Int), j ≤ s.size ∧ i + 1 ≤ j ∧ j ≤ i + 1 ∧ v = .int .i64 i ∧ low s j = low s s.size) (fun i => (intOf i + 1).toNat)
  case atStart => exact ⟨s.size, _, Nat.le_refl _, by omega, by omega, rfl, rfl⟩
  case round =>
    obtain ⟨j, i, hj, h1, h2, rfl, hl⟩ := hrel
    have HL := Lib.hid hl; clear hl
    rcases Nat.eq_zero_or_pos j with h0 | h0
    · have h3 : i < 0 := by omega
      go_wp2
      go_ret2
      exact ⟨by rw [behindAns, ← HL.out, h0]; rfl, Below.refl _ _⟩
    · obtain ⟨k, rfl⟩ : ∃ k : Nat, i = k := ⟨i.toNat, by omega⟩
      have hk : k < s.size := by omega
      go_wp2
      · have h6 : (s[k].toNat : Int) < 255 := by assumption
        have hb : s[k] ≠ 255 := fun h => by rw [h] at h6; simp at h6
        have hcv := byte_text s[k] hb w _ rfl
        have HB := Lib.hid hb; clear hb
        go_region
        go_wp2
        go_ret2
        obtain rfl : j = k + 1 := by omega
        have e : low s s.size = k + 1 := by rw [← HL.out, low, dif_pos hk, if_neg HB.out]
        have e2 : behindAns s = .tuple #[.string (s.extract 0 k ++ ⟨#[s[k] + 1]⟩), .int .i64 0] := by
          rw [behindAns, if_neg (by omega), e, above, Nat.add_sub_cancel, getElem!_pos s k hk]
        rw [e2]
        exact ⟨rfl, ((Below.refl _ _).alloc (Nat.le_refl _) _).drew⟩
      · have hb : s[k] = 255 := by
          have h4 : 255 ≤ (s[k].toNat : Int) := by assumption
          have h5 := s[k].toNat_lt
          exact UInt8.toNat_inj.1 (by simp; omega)
        obtain rfl : j = k + 1 := by omega
        refine ⟨⟨k, (k : Int) - 1, by omega, by omega, by omega, rfl, ?_⟩, by simp [intOf]⟩
        rw [← HL.out, low, dif_pos hk, if_pos hb]

set_option maxHeartbeats 400000 in
set_option maxRecDepth 100000 in
theorem rbehind_any (s : ByteArray) (w : World) (hs : s.size < 9223372036854775807) : Calls Try.prog 17 #[.string s] w fun e w' =>
    e = .returned (.tuple (if low s s.size = 0 then #[.string ⟨#[]⟩, .bool false] else #[.string (above s (low s s.size)), .bool true])) ∧ Below w.heap.size w w' := by
  generalize hA : (Value.tuple (if low s s.size = 0 then #[.string ⟨#[]⟩, .bool false] else #[.string (above s (low s s.size)), .bool true])) = A
  have HA := Lib.hid hA; clear hA
  go_enter Try.func17, Try.ntmps17
  go_wp2
  go_loop [4] (fun v => ∃ j : Nat, j ≤ s.size ∧ v = .int .i64 j ∧ low s j = low s s.size) (fun i => (intOf i).toNat)
  case atStart => exact ⟨s.size, Nat.le_refl _, rfl, rfl⟩
  case round =>
    obtain ⟨j, hj, rfl, hl⟩ := hrel
    have HL := Lib.hid hl; clear hl
    rcases Nat.eq_zero_or_pos j with rfl | h0
    · go_wp2
      go_ret2
      exact ⟨by rw [← HA.out, if_pos (by rw [← HL.out]; rfl)]; rfl, Below.refl _ _⟩
    · obtain ⟨k, rfl⟩ : ∃ k : Nat, j = k + 1 := ⟨j - 1, by omega⟩
      have hk : k < s.size := by omega
      go_wp2
      · have h6 : ((s[k].toNat : Int) == 255) = true := by assumption
        have hb : s[k] = 255 := UInt8.toNat_inj.1 (by simp at h6; simp; omega)
        exact ⟨⟨k, by omega, rfl, by rw [← HL.out, low, dif_pos hk, if_pos hb]⟩, by simp [intOf]⟩
      · have h6 : ((s[k].toNat : Int) == 255) = false := by assumption
        have hb : s[k] ≠ 255 := fun h => by rw [h] at h6; simp at h6
        have hlt : (s[k].toNat : Int) < 255 := by
          have h1 := s[k].toNat_lt
          have h2 : s[k].toNat ≠ 255 := fun h => hb (UInt8.toNat_inj.1 (by simpa using h))
          omega
        have hcv := byte_text s[k] hb w _ rfl
        have HB := Lib.hid hb; clear hb
        go_region
        go_wp2
        go_ret2
        have e : low s s.size = k + 1 := by rw [← HL.out, low, dif_pos hk, if_neg HB.out]
        have e2 : A = .tuple #[.string (s.extract 0 k ++ ⟨#[s[k] + 1]⟩), .bool true] := by
          rw [← HA.out, if_neg (by omega), e, above, Nat.add_sub_cancel, getElem!_pos s k hk]
        rw [e2]
        exact ⟨rfl, ((Below.refl _ _).alloc (Nat.le_refl _) _).drew⟩

theorem maxS_eq (a b : K) : Lib.maxS a b = mx a b := by unfold Lib.maxS mx; rfl
theorem minS_eq (a b : K) : Lib.minS a b = mn a b := by
  unfold Lib.minS mn
  have h : (a.data.toList < b.data.toList ∨ a.data.toList = b.data.toList) ↔ ¬ b < a := by
    show (a < b ∨ _) ↔ _
    constructor
    · rintro (h | h)
      · grind
      · have := key_ext h; grind
    · intro h
      by_cases e : a = b
      · exact .inr (by rw [e])
      · exact .inl (by grind)
  by_cases hb : b < a
  · rw [if_neg (by rw [h]; simpa using hb), if_pos hb]
  · rw [if_pos (h.2 hb), if_neg hb]

def meet (a b : K × K) : K × K := if mn a.2 b.2 ≤ mx a.1 b.1 then (⟨#[]⟩, ⟨#[]⟩) else (mx a.1 b.1, mn a.2 b.2)
def spv (s : K × K) : Value := .agg #[.string s.1, .string s.2]

set_option maxHeartbeats 400000 in
theorem meet_any (a b : K × K) (w : World) : Calls Try.prog 18 #[.agg #[.string a.1, .string a.2], .agg #[.string b.1, .string b.2]] w fun e w' => e = .returned (spv (meet a b)) ∧ Below w.heap.size w w' := by
  have hmax := fun (w : World) (ts : Array TypeId) (t : TypeId) (x y : ByteArray) => (Lib.run_max_strs (P := Try.prog) w ts t x y)
  have hmin := fun (w : World) (ts : Array TypeId) (t : TypeId) (x y : ByteArray) => (Lib.run_min_strs (P := Try.prog) w ts t x y)
  simp only [maxS_eq, minS_eq] at hmax hmin
  by_cases h : mn a.2 b.2 ≤ mx a.1 b.1
  · have e : meet a b = (⟨#[]⟩, ⟨#[]⟩) := by rw [meet, if_pos h]
    rw [e]
    go_enter Try.func18, Try.ntmps18
    go_wp2
    refine bodyPost_ret (v := .agg #[.string ⟨#[]⟩, .string ⟨#[]⟩]) (by simp [results, Try.results18, go_sem]) rfl ⟨rfl, ?_⟩
    ((repeat' (first | exact Below.refl _ _ | refine Below.alloc ?_ ?_ _ | refine Below.setCell ?_ ?_ _ | refine Below.drew ?_)); all_goals ((try simp only [World.size_alloc]); omega))
  · have e : meet a b = (mx a.1 b.1, mn a.2 b.2) := by rw [meet, if_neg h]
    rw [e]
    go_enter Try.func18, Try.ntmps18
    go_wp2
    refine bodyPost_ret (v := .agg #[.string (mx a.1 b.1), .string (mn a.2 b.2)]) (by simp [results, Try.results18, go_sem]) rfl ⟨rfl, ?_⟩
    ((repeat' (first | exact Below.refl _ _ | refine Below.alloc ?_ ?_ _ | refine Below.setCell ?_ ?_ _ | refine Below.drew ?_)); all_goals ((try simp only [World.size_alloc]); omega))

set_option maxHeartbeats 400000 in
theorem rmeet_any (a b : K × K) (w : World) : Calls Try.prog 19 #[.agg #[.string a.1, .string a.2], .agg #[.string b.1, .string b.2]] w fun e w' => e = .returned (spv (meet a b)) ∧ Below w.heap.size w w' := by
  by_cases h1 : a.1 < b.1 <;> by_cases h2 : b.2 < a.2
  · by_cases h : b.2 ≤ b.1
    · have e : meet a b = (⟨#[]⟩, ⟨#[]⟩) := by simp [meet, mx, mn, h1, h2, h]
      rw [e]
      clear e
      go_enter Try.func19, Try.ntmps19
      go_wp2
      refine bodyPost_ret (v := .agg #[.string ⟨#[]⟩, .string ⟨#[]⟩]) (by simp [results, Try.results19, go_sem]) rfl ⟨rfl, ?_⟩
      ((repeat' (first | exact Below.refl _ _ | refine Below.alloc ?_ ?_ _ | refine Below.setCell ?_ ?_ _ | refine Below.drew ?_)); all_goals ((try simp only [World.size_alloc]); omega))
    · have e : meet a b = (b.1, b.2) := by simp [meet, mx, mn, h1, h2, h]
      rw [e]
      clear e
      go_enter Try.func19, Try.ntmps19
      go_wp2
      refine bodyPost_ret (v := .agg #[.string b.1, .string b.2]) (by simp [results, Try.results19, go_sem]) rfl ⟨rfl, ?_⟩
      ((repeat' (first | exact Below.refl _ _ | refine Below.alloc ?_ ?_ _ | refine Below.setCell ?_ ?_ _ | refine Below.drew ?_)); all_goals ((try simp only [World.size_alloc]); omega))
  · by_cases h : a.2 ≤ b.1
    · have e : meet a b = (⟨#[]⟩, ⟨#[]⟩) := by simp [meet, mx, mn, h1, h2, h]
      rw [e]
      clear e
      go_enter Try.func19, Try.ntmps19
      go_wp2
      refine bodyPost_ret (v := .agg #[.string ⟨#[]⟩, .string ⟨#[]⟩]) (by simp [results, Try.results19, go_sem]) rfl ⟨rfl, ?_⟩
      ((repeat' (first | exact Below.refl _ _ | refine Below.alloc ?_ ?_ _ | refine Below.setCell ?_ ?_ _ | refine Below.drew ?_)); all_goals ((try simp only [World.size_alloc]); omega))
    · have e : meet a b = (b.1, a.2) := by simp [meet, mx, mn, h1, h2, h]
      rw [e]
      clear e
      go_enter Try.func19, Try.ntmps19
      go_wp2
      refine bodyPost_ret (v := .agg #[.string b.1, .string a.2]) (by simp [results, Try.results19, go_sem]) rfl ⟨rfl, ?_⟩
      ((repeat' (first | exact Below.refl _ _ | refine Below.alloc ?_ ?_ _ | refine Below.setCell ?_ ?_ _ | refine Below.drew ?_)); all_goals ((try simp only [World.size_alloc]); omega))
  · by_cases h : b.2 ≤ a.1
    · have e : meet a b = (⟨#[]⟩, ⟨#[]⟩) := by simp [meet, mx, mn, h1, h2, h]
      rw [e]
      clear e
      go_enter Try.func19, Try.ntmps19
      go_wp2
      refine bodyPost_ret (v := .agg #[.string ⟨#[]⟩, .string ⟨#[]⟩]) (by simp [results, Try.results19, go_sem]) rfl ⟨rfl, ?_⟩
      ((repeat' (first | exact Below.refl _ _ | refine Below.alloc ?_ ?_ _ | refine Below.setCell ?_ ?_ _ | refine Below.drew ?_)); all_goals ((try simp only [World.size_alloc]); omega))
    · have e : meet a b = (a.1, b.2) := by simp [meet, mx, mn, h1, h2, h]
      rw [e]
      clear e
      go_enter Try.func19, Try.ntmps19
      go_wp2
      refine bodyPost_ret (v := .agg #[.string a.1, .string b.2]) (by simp [results, Try.results19, go_sem]) rfl ⟨rfl, ?_⟩
      ((repeat' (first | exact Below.refl _ _ | refine Below.alloc ?_ ?_ _ | refine Below.setCell ?_ ?_ _ | refine Below.drew ?_)); all_goals ((try simp only [World.size_alloc]); omega))
  · by_cases h : a.2 ≤ a.1
    · have e : meet a b = (⟨#[]⟩, ⟨#[]⟩) := by simp [meet, mx, mn, h1, h2, h]
      rw [e]
      clear e
      go_enter Try.func19, Try.ntmps19
      go_wp2
      refine bodyPost_ret (v := .agg #[.string ⟨#[]⟩, .string ⟨#[]⟩]) (by simp [results, Try.results19, go_sem]) rfl ⟨rfl, ?_⟩
      ((repeat' (first | exact Below.refl _ _ | refine Below.alloc ?_ ?_ _ | refine Below.setCell ?_ ?_ _ | refine Below.drew ?_)); all_goals ((try simp only [World.size_alloc]); omega))
    · have e : meet a b = (a.1, a.2) := by simp [meet, mx, mn, h1, h2, h]
      rw [e]
      clear e
      go_enter Try.func19, Try.ntmps19
      go_wp2
      refine bodyPost_ret (v := .agg #[.string a.1, .string a.2]) (by simp [results, Try.results19, go_sem]) rfl ⟨rfl, ?_⟩
      ((repeat' (first | exact Below.refl _ _ | refine Below.alloc ?_ ?_ _ | refine Below.setCell ?_ ?_ _ | refine Below.drew ?_)); all_goals ((try simp only [World.size_alloc]); omega))
end Go.Proofs.Ytmfpidihcjnnkaa
