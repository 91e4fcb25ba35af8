/- Changes: their cells, slices of them; what Check, All and Same answer. -/
import Derived.Test.YtiijcikdlemndaaKeyO
import Derived.Test.YtiijcikdlemndaaGen
import Derived.Test.YtiijcikdlemndaaPlanB
import Derived.Laws.StructEq
namespace Go.Proofs.Ytiijcikdlemndaa
open Go.RowKit
attribute [local go_sem] less_eq same_eq le_eq ge_eq gt_eq

def cellsS (s : K × K) : List Value := [.string s.1, .string s.2]
theorem cellsS_len (x : K × K) : (cellsS x).length = 2 := rfl
theorem cellsS_one (x : K × K) : ∀ u ∈ cellsS x, u.oneCell' = true := by intro u hu; simp [cellsS] at hu; rcases hu with rfl | rfl <;> rfl
structure Chg where
  kind : Int
  key : K
  val : K
instance : DecidableEq Chg := fun a b => decidable_of_iff (a.kind = b.kind ∧ a.key = b.key ∧ a.val = b.val) ⟨fun h => by cases a; cases b; simp only at h; obtain ⟨rfl, rfl, rfl⟩ := h; rfl, fun h => by subst h; exact ⟨rfl, rfl, rfl⟩⟩
def cval (c : Chg) : Value := .agg #[.int .i64 c.kind, .string c.key, .string c.val]
def encC (c : Chg) : List Value := [.int .i64 c.kind, .string c.key, .string c.val]
theorem encC_len (c : Chg) : (encC c).length = 3 := rfl
theorem encC_one (c : Chg) : ∀ u ∈ encC c, u.oneCell' = true := by
  intro u hu
  simp [encC] at hu
  rcases hu with rfl | rfl | rfl <;> rfl
abbrev RdC (w : World) (B : Nat) (v : Value) (l : List Chg) : Prop := Rd encC 3 w B v l
abbrev OwnC (w : World) (base : Nat) (v : Value) (l : List Chg) : Prop := Own encC 3 89 w base v l
abbrev RdP (w : World) (B : Nat) (v : Value) (l : List (K × K)) : Prop := Rd cellsS 2 w B v l
abbrev OwnP (w : World) (base : Nat) (v : Value) (l : List (K × K)) : Prop := Own cellsS 2 83 w base v l
theorem info_chg : (Try.prog.info? 89).map (fun i => (i.zero, i.size, i.bytes)) = some (some (.agg #[.int .i64 0, .string ⟨#[]⟩, .string ⟨#[]⟩]), 3, 40) := by kernel_rfl
theorem info_span : (Try.prog.info? 83).map (fun i => (i.zero, i.size, i.bytes)) = some (some (.agg #[.string ⟨#[]⟩, .string ⟨#[]⟩]), 2, 32) := by kernel_rfl

theorem RdC.at {w : World} {B : Nat} {v : Value} {l : List Chg} (h : RdC w B v l) : ∃ A c, v = .slice A l.length c ∧ l.length ≤ c ∧ ∀ i (_ : i < l.length), ∃ b o, A = some ⟨b, o, none⟩ ∧ b < B ∧
    w.cell? ⟨b, o + i * 3, none⟩ = some (.int .i64 l[i].kind) ∧ w.cell? ⟨b, o + i * 3 + 1, none⟩ = some (.string l[i].key) ∧ w.cell? ⟨b, o + i * 3 + 2, none⟩ = some (.string l[i].val) := by
  obtain ⟨A, c, hv, hc, hi⟩ := h
  refine ⟨A, c, hv, hc, fun i hs => ?_⟩
  obtain ⟨b, o, hA, hB, h1⟩ := hi i hs
  exact ⟨b, o, hA, hB, h1 0 _ rfl, h1 1 _ rfl, h1 2 _ rfl⟩
theorem RdP.at {w : World} {B : Nat} {v : Value} {l : List (K × K)} (h : RdP w B v l) : ∃ A c, v = .slice A l.length c ∧ l.length ≤ c ∧ ∀ i (_ : i < l.length), ∃ b o, A = some ⟨b, o, none⟩ ∧ b < B ∧
    w.cell? ⟨b, o + i * 2, none⟩ = some (.string l[i].1) ∧ w.cell? ⟨b, o + i * 2 + 1, none⟩ = some (.string l[i].2) := by
  obtain ⟨A, c, hv, hc, hi⟩ := h
  refine ⟨A, c, hv, hc, fun i hs => ?_⟩
  obtain ⟨b, o, hA, hB, h1⟩ := hi i hs
  exact ⟨b, o, hA, hB, h1 0 _ rfl, h1 1 _ rfl⟩

/-- what Check answers -/
def checkAns (c : Chg) : Int :=
  if c.kind = 1 then (if c.key.size > 16 ∨ c.val.size > 64 then 6 else 0)
  else if c.kind = 2 then (if c.key.size > 16 ∨ c.val.size > 0 then 6 else 0)
  else if c.kind = 3 then (if c.key.size > 17 ∨ c.val.size > 17 then 6 else if c.val < c.key then 5 else 0)
  else 1
/-- the keys that a change names -/
def cspan (c : Chg) : K × K := if c.kind = 3 then (c.key, c.val) else (c.key, c.key ++ ⟨#[0]⟩)

set_option maxHeartbeats 4000000 in
set_option maxRecDepth 100000 in
theorem rcheck_any (c : Chg) (w : World) (hk : c.key.size < 9223372036854775807) (hv : c.val.size < 9223372036854775807) : Calls Try.prog 91 #[cval c] w fun e w' => e = .returned (.int .i64 (checkAns c)) ∧ Below w.heap.size w w' := by
  obtain ⟨k, x, y⟩ := c
  obtain ⟨R, hR⟩ : ∃ R, R = checkAns ⟨k, x, y⟩ := ⟨_, rfl⟩
  rw [← hR]
  unfold checkAns at hR
  unfold cval
  simp only at hR hk hv ⊢
  go_enter Try.func91, Try.ntmps91
  go_wp2_with fail
  have HB := Lib.hid (((Below.refl _ w).alloc (Nat.le_refl _) (.cells #[.int .i64 k, .string x, .string y] 89)).drew)
  have HC := Lib.hid (show ∀ W, Below (w.alloc (.cells #[.int .i64 k, .string x, .string y] 89)).drew.heap.size (w.alloc (.cells #[.int .i64 k, .string x, .string y] 89)).drew W →
      W.cell? ⟨w.heap.size, 0, none⟩ = some (.int .i64 k) ∧ W.cell? ⟨w.heap.size, 1, none⟩ = some (.string x) ∧ W.cell? ⟨w.heap.size, 2, none⟩ = some (.string y) from fun W hW => by
    have hlt : w.heap.size < (w.alloc (.cells #[.int .i64 k, .string x, .string y] 89)).drew.heap.size := by show _ < (w.alloc _).heap.size; simp
    exact ⟨(hW.cell (p := ⟨w.heap.size, 0, none⟩) hlt).trans (World.cell?_alloc_at _ _ _ _ rfl), (hW.cell (p := ⟨w.heap.size, 1, none⟩) hlt).trans (World.cell?_alloc_at _ _ _ _ rfl), (hW.cell (p := ⟨w.heap.size, 2, none⟩) hlt).trans (World.cell?_alloc_at _ _ _ _ rfl)⟩)
  refine wp_region_planB [(true, 0), (true, 1), (true, 2), (true, 3), (true, 4), (true, 5), (true, 6), (true, 7)] (by kernel_rfl) (by kernel_rfl) (fun _ _ d _ _ h => by cases d <;> exact h) ?_
  generalize (w.alloc (.cells #[.int .i64 k, .string x, .string y] 89)).drew = w1 at HB HC ⊢
  obtain ⟨g, hg⟩ : ∃ g, g = w.heap.size := ⟨_, rfl⟩
  rw [← hg] at HC ⊢
  clear hg
  repeat (refine PlanB.take (v := ?_) rfl rfl ?_ ?_; rotate_left; (focus (intro W hW; obtain ⟨k0, k1, k2⟩ := HC.out W hW; go_simp; (try with_reducible rfl); done)); (try simp only [Act.put, List.setIfInBounds_toArray, List.set_cons_zero, List.set_cons_succ]))
  simp only [PlanB]
  obtain ⟨k0, k1, k2⟩ := HC.out w1 (Below.refl _ _)
  by_cases h1 : k = 1
  · rw [if_pos h1] at hR
    subst h1
    by_cases ha : x.size > 16
    · rw [if_pos (.inl ha)] at hR
      have HR := Lib.hid hR; clear hR
      have ha1 : (16 : Int) < (x.size : Int) := by omega
      go_wp2_with fail
      go_ret
      exact ⟨by rw [HR.out]; rfl, HB.out⟩
    by_cases hb : y.size > 64
    · rw [if_pos (.inr hb)] at hR
      have HR := Lib.hid hR; clear hR
      have ha1 : ¬ (16 : Int) < (x.size : Int) := by omega
      have hb1 : (64 : Int) < (y.size : Int) := by omega
      go_wp2_with fail
      go_ret
      exact ⟨by rw [HR.out]; rfl, HB.out⟩
    rw [if_neg (by omega)] at hR
    have ha1 : ¬ (16 : Int) < (x.size : Int) := by omega
    have hb1 : ¬ (64 : Int) < (y.size : Int) := by omega
    have HR := Lib.hid hR; clear hR
    go_wp2_with fail
    go_ret
    exact ⟨by rw [HR.out]; rfl, HB.out⟩
  by_cases h2 : k = 2
  · rw [if_neg h1, if_pos h2] at hR
    subst h2
    clear h1
    by_cases ha : x.size > 16
    · rw [if_pos (.inl ha)] at hR
      have HR := Lib.hid hR; clear hR
      have ha1 : (16 : Int) < (x.size : Int) := by omega
      go_wp2_with fail
      go_ret
      exact ⟨by rw [HR.out]; rfl, HB.out⟩
    by_cases hb : y.size > 0
    · rw [if_pos (.inr hb)] at hR
      have HR := Lib.hid hR; clear hR
      have ha1 : ¬ (16 : Int) < (x.size : Int) := by omega
      have hb1 : (0 : Int) < (y.size : Int) := by omega
      go_wp2_with fail
      go_ret
      exact ⟨by rw [HR.out]; rfl, HB.out⟩
    rw [if_neg (by omega)] at hR
    have ha1 : ¬ (16 : Int) < (x.size : Int) := by omega
    have hb1 : ¬ (0 : Int) < (y.size : Int) := by omega
    have HR := Lib.hid hR; clear hR
    go_wp2_with fail
    go_ret
    exact ⟨by rw [HR.out]; rfl, HB.out⟩
  by_cases h3 : k = 3
  · rw [if_neg h1, if_neg h2, if_pos h3] at hR
    subst h3
    clear h1 h2
    by_cases ha : x.size > 17
    · rw [if_pos (.inl ha)] at hR
      have HR := Lib.hid hR; clear hR
      have ha1 : (17 : Int) < (x.size : Int) := by omega
      go_wp2_with fail
      go_ret
      exact ⟨by rw [HR.out]; rfl, HB.out⟩
    by_cases hb : y.size > 17
    · rw [if_pos (.inr hb)] at hR
      have HR := Lib.hid hR; clear hR
      have ha1 : ¬ (17 : Int) < (x.size : Int) := by omega
      have hb1 : (17 : Int) < (y.size : Int) := by omega
      go_wp2_with fail
      go_ret
      exact ⟨by rw [HR.out]; rfl, HB.out⟩
    rw [if_neg (by omega)] at hR
    have ha1 : ¬ (17 : Int) < (x.size : Int) := by omega
    have hb1 : ¬ (17 : Int) < (y.size : Int) := by omega
    by_cases hl : y < x
    · rw [if_pos hl] at hR
      have HR := Lib.hid hR; clear hR
      go_wp2_with fail
      go_ret
      exact ⟨by rw [HR.out]; rfl, HB.out⟩
    rw [if_neg hl] at hR
    have HR := Lib.hid hR; clear hR
    go_wp2_with fail
    go_ret
    exact ⟨by rw [HR.out]; rfl, HB.out⟩
  rw [if_neg h1, if_neg h2, if_neg h3] at hR
  have HR := Lib.hid hR; clear hR
  go_wp2_with fail
  go_ret
  exact ⟨by rw [HR.out]; rfl, HB.out⟩
def smallC (c : Chg) : Prop := c.key.size < 4611686018427387904 ∧ c.val.size < 4611686018427387904
/-- the first error -/
def allAns : List Chg → Int
  | [] => 0
  | c :: r => if checkAns c = 0 then allAns r else checkAns c

set_option maxHeartbeats 1000000 in
set_option maxRecDepth 100000 in
theorem rall_any (l : List Chg) (hs : ∀ c ∈ l, smallC c) (v : Value) (w : World) (hv : RdC w w.heap.size v l) (hl : l.length < 4611686018427387904) :
    Calls Try.prog 78 #[v] w fun e w' => e = .returned (.int .i64 (allAns l)) ∧ Below w.heap.size w w' := by
  obtain ⟨A, c, rfl, hc, hi⟩ := hv.at
  obtain ⟨R, hR⟩ : ∃ R, R = allAns l := ⟨_, rfl⟩
  rw [← hR]
  have HR := Lib.hid hR; clear hR
  have HI := Lib.hid hi; clear hi
  have HS := Lib.hid hs; clear hs
  clear hv
  obtain ⟨g, hg⟩ : ∃ g, g = w.heap.size := ⟨_, rfl⟩
  have HG := Lib.hid hg; clear hg
  go_enter Try.func78, Try.ntmps78
  go_wp2_with fail
  go_loopw [3] (fun iv wr => ∃ i : Nat, i ≤ l.length ∧ iv = .int .i64 i ∧ Below g w wr ∧ R = allAns (l.drop i)) (fun iv _ => l.length - (intOf iv).toNat)
  case atStart => exact ⟨0, Nat.zero_le _, rfl, Below.refl _ _, HR.out⟩
  case round =>
    obtain ⟨i, hil, rfl, hbw, he⟩ := hrel
    have HBW := Lib.hid hbw; clear hbw
    have HE := Lib.hid he; clear he
    by_cases hlt : i < l.length
    · obtain ⟨b, o, rfl, hbB, k0, k1, k2⟩ := HI.out i hlt
      have hsm := HS.out l[i] (List.getElem_mem hlt)
      have hd := HE.out
      rw [List.drop_eq_getElem_cons hlt, allAns] at hd
      rw [← HBW.out.cell (p := ⟨b, o + i * 3, none⟩) (by rw [HG.out]; exact hbB)] at k0
      rw [← HBW.out.cell (p := ⟨b, o + i * 3 + 1, none⟩) (by rw [HG.out]; exact hbB)] at k1
      rw [← HBW.out.cell (p := ⟨b, o + i * 3 + 2, none⟩) (by rw [HG.out]; exact hbB)] at k2
      generalize l[i] = z at k0 k1 k2 hsm hd
      have hck := rcheck_any z wr (by have := hsm.1; omega) (by have := hsm.2; omega)
      unfold cval at hck
      generalize checkAns z = q at hck hd
      obtain ⟨kz, xz, yz⟩ := z
      simp only at k0 k1 k2 hck
      have HD := Lib.hid hd
      have HK := Lib.hid hck
      clear hd hck hsm
      go_wp2_with fail
      refine HK.out.mono ?_
      rintro e w2 ⟨rfl, hb2⟩
      have HW2 := Lib.hid (show Below g w w2 from HBW.out.trans (hb2.mono (by rw [HG.out]; exact HBW.out.size)))
      clear hb2 k0 k1 k2
      by_cases hq : q = 0
      · subst hq
        have hd := HD.out
        rw [if_pos rfl] at hd
        have HD2 := Lib.hid hd; clear hd
        go_wp2_with fail
        go_roundw
        case rel => exact ⟨i + 1, by omega, by go_num, HW2.out, HD2.out⟩
        case measure => simp [intOf]; omega
      · have hd := HD.out
        rw [if_neg hq] at hd
        have HD2 := Lib.hid hd; clear hd
        go_wp2_with fail
        go_ret
        exact ⟨by rw [HD2.out]; rfl, by have h := HW2.out; rwa [HG.out] at h⟩
    · have hd := HE.out
      rw [List.drop_eq_nil_of_le (by omega), allAns] at hd
      have HD := Lib.hid hd; clear hd
      go_wp2_with fail
      go_ret
      exact ⟨by rw [HD.out]; rfl, by have h := HBW.out; rwa [HG.out] at h⟩
set_option maxHeartbeats 4000000 in
set_option maxRecDepth 100000 in
theorem pcheck_any (c : Chg) (w : World) (hk : c.key.size < 9223372036854775807) (hv : c.val.size < 9223372036854775807) : Calls Try.prog 90 #[cval c] w fun e w' => e = .returned (.int .i64 (checkAns c)) ∧ Below w.heap.size w w' := by
  obtain ⟨k, x, y⟩ := c
  obtain ⟨R, hR⟩ : ∃ R, R = checkAns ⟨k, x, y⟩ := ⟨_, rfl⟩
  rw [← hR]
  unfold checkAns at hR
  unfold cval
  simp only at hR hk hv ⊢
  have HB := Lib.hid (((Below.refl _ w).alloc (Nat.le_refl _) (.cells #[.int .i64 k, .string x, .string y] 89)))
  by_cases h1 : k = 1
  · rw [if_pos h1] at hR
    subst h1
    by_cases ha : x.size > 16
    · rw [if_pos (.inl ha)] at hR
      have HR := Lib.hid hR; clear hR
      have ha1 : (16 : Int) < (x.size : Int) := by omega
      go_enter Try.func90, Try.ntmps90
      go_wp2_with fail
      go_ret
      exact ⟨by rw [HR.out]; rfl, HB.out⟩
    have ha1 : ¬ (16 : Int) < (x.size : Int) := by omega
    by_cases hb : y.size > 64
    · rw [if_pos (.inr hb)] at hR
      have HR := Lib.hid hR; clear hR
      have hb1 : (64 : Int) < (y.size : Int) := by omega
      go_enter Try.func90, Try.ntmps90
      go_wp2_with fail
      go_ret
      exact ⟨by rw [HR.out]; rfl, HB.out⟩
    rw [if_neg (by omega)] at hR
    have hb1 : ¬ (64 : Int) < (y.size : Int) := by omega
    have HR := Lib.hid hR; clear hR
    go_enter Try.func90, Try.ntmps90
    go_wp2_with fail
    go_ret
    exact ⟨by rw [HR.out]; rfl, HB.out⟩
  by_cases h2 : k = 2
  · rw [if_neg h1, if_pos h2] at hR
    subst h2
    clear h1
    by_cases hb : y = ⟨#[]⟩
    · subst hb
      by_cases ha : x.size > 16
      · rw [if_pos (.inl ha)] at hR
        have HR := Lib.hid hR; clear hR
        have ha1 : (16 : Int) < (x.size : Int) := by omega
        go_enter Try.func90, Try.ntmps90
        go_wp2_with fail
        go_ret
        exact ⟨by rw [HR.out]; rfl, HB.out⟩
      have ha1 : ¬ (16 : Int) < (x.size : Int) := by omega
      rw [if_neg (by have h0 : (⟨#[]⟩ : ByteArray).size = 0 := rfl
                     omega)] at hR
      have HR := Lib.hid hR; clear hR
      go_enter Try.func90, Try.ntmps90
      go_wp2_with fail
      go_ret
      exact ⟨by rw [HR.out]; rfl, HB.out⟩
    · have hy : y.size > 0 := by
        rcases Nat.eq_zero_or_pos y.size with h | h
        · exact absurd (ByteArray.ext (Array.eq_empty_of_size_eq_zero h)) hb
        · exact h
      have hne : (ByteArray.toList y).isEmpty = false := by
        rw [Lib.toList_data]
        cases hd : y.data.toList with
        | nil => exact absurd (ByteArray.ext (Array.toList_eq_nil_iff.1 hd)) hb
        | cons a r => rfl
      rw [if_pos (.inr hy)] at hR
      have HR := Lib.hid hR; clear hR
      go_enter Try.func90, Try.ntmps90
      go_wp2_with fail
      go_ret
      exact ⟨by rw [HR.out]; rfl, HB.out⟩
  by_cases h3 : k = 3
  · rw [if_neg h1, if_neg h2, if_pos h3] at hR
    subst h3
    clear h1 h2
    by_cases ha : x.size > 17
    · rw [if_pos (.inl ha)] at hR
      have HR := Lib.hid hR; clear hR
      have ha1 : (17 : Int) < (x.size : Int) := by omega
      go_enter Try.func90, Try.ntmps90
      go_wp2_with fail
      go_ret
      exact ⟨by rw [HR.out]; rfl, HB.out⟩
    have ha1 : ¬ (17 : Int) < (x.size : Int) := by omega
    by_cases hb : y.size > 17
    · rw [if_pos (.inr hb)] at hR
      have HR := Lib.hid hR; clear hR
      have hb1 : (17 : Int) < (y.size : Int) := by omega
      go_enter Try.func90, Try.ntmps90
      go_wp2_with fail
      go_ret
      exact ⟨by rw [HR.out]; rfl, HB.out⟩
    rw [if_neg (by omega)] at hR
    have hb1 : ¬ (17 : Int) < (y.size : Int) := by omega
    by_cases hl : y < x
    · rw [if_pos hl] at hR
      have HR := Lib.hid hR; clear hR
      go_enter Try.func90, Try.ntmps90
      go_wp2_with fail
      go_ret
      exact ⟨by rw [HR.out]; rfl, HB.out⟩
    rw [if_neg hl] at hR
    have HR := Lib.hid hR; clear hR
    go_enter Try.func90, Try.ntmps90
    go_wp2_with fail
    go_ret
    exact ⟨by rw [HR.out]; rfl, HB.out⟩
  rw [if_neg h1, if_neg h2, if_neg h3] at hR
  have HR := Lib.hid hR; clear hR
  go_enter Try.func90, Try.ntmps90
  go_wp2_with fail
  go_ret
  exact ⟨by rw [HR.out]; rfl, HB.out⟩

theorem chg_guard : Try.prog.eqGuardType Try.prog.depth 89 = false := by kernel_rfl
set_option maxRecDepth 100000 in
theorem eql_chg (k m : Int) (a b c d : K) (W : World) : (binOp .eql 89 (.agg #[.int .i64 k, .string a, .string b]) (.agg #[.int .i64 m, .string c, .string d])).run Try.prog W = .ok (.bool (decide (k = m) && decide (a = c) && decide (b = d))) W := by
  have hS : Try.prog.underlying 89 = some (.struct (Try.prog.fieldsOf 89)) := by kernel_rfl
  have hp : Try.prog.stoodInHeld 89 = false := by kernel_rfl
  have u0 := Try.underlying3
  have ag0 := Try.isAgg3
  have sz0 := Try.sizeOf3
  have u1 := Try.underlying9
  have ag1 := Try.isAgg9
  have sz1 := Try.sizeOf9
  rw [run_eql_struct, show (10000 : Nat) = 9999 + 1 from rfl, run_equalIn_agg W 9999 89 _ _ hS hp]
  simp only [Program.fieldsOf, Try.underlying89]
  go_simp
  by_cases h0 : k = m <;> by_cases h1 : a = c <;> by_cases h2 : b = d <;> simp [h0, h1, h2]
set_option maxRecDepth 100000 in
theorem neq_chg (k m : Int) (a b c d : K) (W : World) : (binOp .neq 89 (.agg #[.int .i64 k, .string a, .string b]) (.agg #[.int .i64 m, .string c, .string d])).run Try.prog W = .ok (.bool (!(decide (k = m) && decide (a = c) && decide (b = d)))) W := by
  have h := eql_chg k m a b c d W
  rw [run_eql_struct] at h
  rw [run_neq_struct]
  cases hr : (Op.equalIn 10000 89 (.agg #[.int .i64 k, .string a, .string b]) (.agg #[.int .i64 m, .string c, .string d])).run Try.prog W with
  | ok x w' => rw [hr] at h; simp only [Result.andThen] at h ⊢; injection h with h1 h2; subst h2; injection h1 with h1; rw [h1]
  | halt x w' => rw [hr] at h; simp [Result.andThen] at h

set_option maxHeartbeats 2000000 in
set_option maxRecDepth 100000 in
theorem chgs_any (a b : List Chg) (va vb : Value) (w : World) (hva : RdC w w.heap.size va a) (hvb : RdC w w.heap.size vb b) (hla : a.length < 4611686018427387904) (hlb : b.length < 4611686018427387904) :
    Calls Try.prog 56 #[va, vb] w fun e w' => e = .returned (.bool (decide (a = b))) ∧ Below w.heap.size w w' := by
  obtain ⟨A1, c1, rfl, hc1, hia⟩ := hva.at
  obtain ⟨A2, c2, rfl, hc2, hib⟩ := hvb.at
  obtain ⟨D, hD⟩ : ∃ D, D = decide (a = b) := ⟨_, rfl⟩
  rw [← hD]
  have HD := Lib.hid hD; clear hD
  clear hva hvb
  by_cases hlen : a.length = b.length
  · have HA := Lib.hid hia; clear hia
    have HB := Lib.hid hib; clear hib
    have HL := Lib.hid hlen
    rw [← hlen]
    rw [← hlen] at hlb hc2
    clear hlen
    obtain ⟨g, hg⟩ : ∃ g, g = w.heap.size := ⟨_, rfl⟩
    have HG := Lib.hid hg; clear hg
    go_enter Try.func56, Try.ntmps56
    go_wp2_with fail
    go_loopw [5] (fun iv wr => ∃ j : Nat, j ≤ a.length ∧ iv = .int .i64 j ∧ Below g w wr ∧ ∀ k (h1 : k < a.length) (h2 : k < b.length), k < j → a[k] = b[k]) (fun iv _ => a.length - (intOf iv).toNat)
    case atStart => exact ⟨0, Nat.zero_le _, rfl, Below.refl _ _, fun k _ _ h => by omega⟩
    case round =>
      obtain ⟨j, hj, rfl, hbw, hall⟩ := hrel
      have HBW := Lib.hid hbw; clear hbw
      have HALL := Lib.hid hall; clear hall
      by_cases hlt : j < a.length
      · have hlt2 : j < b.length := by rw [← HL.out]; exact hlt
        obtain ⟨b1, o1, rfl, hb1, x0, x1, x2⟩ := HA.out j hlt
        obtain ⟨b2, o2, rfl, hb2, y0, y1, y2⟩ := HB.out j hlt2
        have hbd : Below w.heap.size w wr.drew := by have h := HBW.out.drew; rwa [HG.out] at h
        have hx2 : ∀ W, Below wr.drew.heap.size wr.drew W → W.cell? ⟨b1, o1 + j * 3, none⟩ = some (.int .i64 a[j].kind) ∧ W.cell? ⟨b1, o1 + j * 3 + 1, none⟩ = some (.string a[j].key) ∧ W.cell? ⟨b1, o1 + j * 3 + 2, none⟩ = some (.string a[j].val) := fun W hW => ⟨((hbd.trans (hW.mono hbd.size)).cell (p := ⟨_, _, none⟩) hb1).trans x0, ((hbd.trans (hW.mono hbd.size)).cell (p := ⟨_, _, none⟩) hb1).trans x1, ((hbd.trans (hW.mono hbd.size)).cell (p := ⟨_, _, none⟩) hb1).trans x2⟩
        have hy2 : ∀ W, Below wr.drew.heap.size wr.drew W → W.cell? ⟨b2, o2 + j * 3, none⟩ = some (.int .i64 b[j].kind) ∧ W.cell? ⟨b2, o2 + j * 3 + 1, none⟩ = some (.string b[j].key) ∧ W.cell? ⟨b2, o2 + j * 3 + 2, none⟩ = some (.string b[j].val) := fun W hW => ⟨((hbd.trans (hW.mono hbd.size)).cell (p := ⟨_, _, none⟩) hb2).trans y0, ((hbd.trans (hW.mono hbd.size)).cell (p := ⟨_, _, none⟩) hb2).trans y1, ((hbd.trans (hW.mono hbd.size)).cell (p := ⟨_, _, none⟩) hb2).trans y2⟩
        have hne : a[j] ≠ b[j] → D = false := fun h => by rw [HD.out]; exact decide_eq_false fun e => h (by subst e; rfl)
        have heq : a[j] = b[j] → ∀ k (h1 : k < a.length) (h2 : k < b.length), k < j + 1 → a[k] = b[k] := fun h k h1 h2 hk => by
          rcases Nat.lt_or_ge k j with h' | h'
          · exact HALL.out k h1 h2 h'
          · obtain rfl : k = j := by omega
            exact h
        clear x0 x1 x2 y0 y1 y2
        generalize a[j] = x at hx2 hne heq
        generalize b[j] = y at hy2 hne heq
        have HX := Lib.hid hx2
        have HY := Lib.hid hy2
        have HNE := Lib.hid hne
        have HEQ := Lib.hid heq
        have hj0 : (0 : Int) ≤ (j : Int) := by omega
        have hj1 : (j : Int) < (a.length : Int) := by omega
        have HBD := Lib.hid hbd
        clear hx2 hy2 hne heq hbd hlt2
        by_cases hxy : x = y
        · have HN := Lib.hid (show ∀ W : World, (binOp .neq 89 (.agg #[.int .i64 x.kind, .string x.key, .string x.val]) (.agg #[.int .i64 y.kind, .string y.key, .string y.val])).run Try.prog W = .ok (.bool false) W from fun W => by rw [neq_chg]; subst hxy; simp)
          go_wp2_with fail
          refine wp_region_planB [(true, 0), (true, 1), (true, 2), (true, 3), (true, 4), (true, 5), (true, 6), (true, 7), (true, 8)] (by kernel_rfl) (by kernel_rfl) (fun _ _ d _ _ h => by cases d <;> exact h) ?_
          repeat (refine PlanB.take (v := ?_) rfl rfl ?_ ?_; rotate_left; (focus (intro W hW; obtain ⟨k0, k1, k2⟩ := HX.out W hW; obtain ⟨j0, j1, j2⟩ := HY.out W hW; have kn := HN.out W; have kg := chg_guard; go_simp; (try with_reducible rfl); done)); (try simp only [Act.put, List.setIfInBounds_toArray, List.set_cons_zero, List.set_cons_succ]))
          simp only [PlanB]
          go_wp2_with fail
          go_roundw
          case rel => exact ⟨j + 1, by omega, by go_num, HBW.out.drew, HEQ.out hxy⟩
          case measure => simp [intOf]; omega
        · have hd3 : ¬ x.kind = y.kind ∨ (x.kind = y.kind ∧ ¬ x.key = y.key) ∨ (x.kind = y.kind ∧ x.key = y.key ∧ ¬ x.val = y.val) := by
            by_cases h1 : x.kind = y.kind
            · by_cases h2 : x.key = y.key
              · exact .inr (.inr ⟨h1, h2, fun h3 => hxy (by cases x; cases y; simp only at h1 h2 h3; subst h1 h2 h3; rfl)⟩)
              · exact .inr (.inl ⟨h1, h2⟩)
            · exact .inl h1
          rcases hd3 with h1 | ⟨h1, h2⟩ | ⟨h1, h2, h3⟩
          all_goals
            go_wp2_with fail
            refine wp_region_planB [(true, 0), (true, 1), (true, 2), (true, 3), (true, 4), (true, 5), (true, 6), (true, 7), (true, 8)] (by kernel_rfl) (by kernel_rfl) (fun _ _ d _ _ h => by cases d <;> exact h) ?_
            repeat (refine PlanB.take (v := ?_) rfl rfl ?_ ?_; rotate_left; (focus (intro W hW; obtain ⟨k0, k1, k2⟩ := HX.out W hW; obtain ⟨j0, j1, j2⟩ := HY.out W hW; have kg := chg_guard; go_simp; (try with_reducible rfl); done)); (try simp only [Act.put, List.setIfInBounds_toArray, List.set_cons_zero, List.set_cons_succ]))
            simp only [PlanB]
            go_wp2_with fail
            go_ret
            exact ⟨by rw [HNE.out hxy]; rfl, HBD.out⟩
      · go_wp2_with fail
        go_ret
        refine ⟨?_, by have h := HBW.out; rwa [HG.out] at h⟩
        have : D = true := by
          rw [HD.out]
          refine decide_eq_true (List.ext_getElem HL.out fun k h1 h2 => HALL.out k h1 h2 (by omega))
        rw [this]; rfl
  · have hd : D = false := by rw [HD.out]; exact decide_eq_false fun e => hlen (by rw [e])
    have HD2 := Lib.hid hd
    have hli : ¬ ((a.length : Int) = (b.length : Int)) := by omega
    clear hd hia hib
    go_enter Try.func56, Try.ntmps56
    go_wp2_with fail
    go_ret
    exact ⟨by rw [HD2.out]; rfl, Below.refl _ _⟩
end Go.Proofs.Ytiijcikdlemndaa
