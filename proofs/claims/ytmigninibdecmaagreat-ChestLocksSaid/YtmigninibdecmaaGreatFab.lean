/- Changes: their cells, slices of them; what Check, All and Same answer. Numbers as bytes of seven bits each, as plain lists: laid, read back, read from any bytes. What the reference's Num answers. What the reference's Text answers. What the reference's Put and Num answer. A text's bytes appended to a slice of the call's own. What the reference's PutText answers. Slices of ints: read, owned, appended to; those that came in. What the reference's Nums, Split and Ints answer. The register as plain arithmetic: one step, a byte, a text; that it adds up bit by bit, and that it loses nothing. The bits of numbers as plain arithmetic. What the sums answer: the program's and the reference's, for every text and every world. -/
import Derived.Test.YtmigninibdecmaaGreatFaa
import Derived.Test.YtmigninibdecmaaGreatRows
import Derived.Laws.StructEq
import Derived.Lib.AppendStr
import Derived.Laws.BitsLemmas
import Derived.Lib.EndianBits
import Derived.WalkKit
import Derived.WalkSpells
import Derived.WalkLawsBesides
import Derived.Lib.Hide
import Derived.Sort.Walk0
namespace Go.Proofs.YtmigninibdecmaaGreat
open Go.RowKit
attribute [local go_sem] less_eq same_eq le_eq ge_eq gt_eq

def cellsS (s : K × K) : List Value := [.string s.1, .string s.2]
theorem cellsS_len (x : K × K) : (cellsS x).length = 2 := rfl
theorem cellsS_one (x : K × K) : ∀ u ∈ cellsS x, u.oneCell' = true := by intro u hu; simp [cellsS] at hu; rcases hu with rfl | rfl <;> rfl
structure Chg where
  kind : Int
  key : K
  val : K
instance : DecidableEq Chg := fun a b => decidable_of_iff (a.kind = b.kind ∧ a.key = b.key ∧ a.val = b.val) ⟨fun h => by cases a; cases b; simp only at h; obtain ⟨rfl, rfl, rfl⟩ := h; rfl, fun h => by subst h; exact ⟨rfl, rfl, rfl⟩⟩
def cval (c : Chg) : Value := .agg #[.int .i64 c.kind, .string c.key, .string c.val]
def encC (c : Chg) : List Value := [.int .i64 c.kind, .string c.key, .string c.val]
theorem encC_len (c : Chg) : (encC c).length = 3 := rfl
theorem encC_one (c : Chg) : ∀ u ∈ encC c, u.oneCell' = true := by
  intro u hu
  simp [encC] at hu
  rcases hu with rfl | rfl | rfl <;> rfl
abbrev RdC (w : World) (B : Nat) (v : Value) (l : List Chg) : Prop := Rd encC 3 w B v l
abbrev OwnC (w : World) (base : Nat) (v : Value) (l : List Chg) : Prop := Own encC 3 43 w base v l
abbrev RdP (w : World) (B : Nat) (v : Value) (l : List (K × K)) : Prop := Rd cellsS 2 w B v l
theorem info_chg : (Tryz.prog.info? 43).map (fun i => (i.zero, i.size, i.bytes)) = some (some (.agg #[.int .i64 0, .string ⟨#[]⟩, .string ⟨#[]⟩]), 3, 40) := by kernel_rfl
theorem RdC.at {w : World} {B : Nat} {v : Value} {l : List Chg} (h : RdC w B v l) : ∃ A c, v = .slice A l.length c ∧ l.length ≤ c ∧ ∀ i (_ : i < l.length), ∃ b o, A = some ⟨b, o, none⟩ ∧ b < B ∧
    w.cell? ⟨b, o + i * 3, none⟩ = some (.int .i64 l[i].kind) ∧ w.cell? ⟨b, o + i * 3 + 1, none⟩ = some (.string l[i].key) ∧ w.cell? ⟨b, o + i * 3 + 2, none⟩ = some (.string l[i].val) := by
  obtain ⟨A, c, hv, hc, hi⟩ := h
  refine ⟨A, c, hv, hc, fun i hs => ?_⟩
  obtain ⟨b, o, hA, hB, h1⟩ := hi i hs
  exact ⟨b, o, hA, hB, h1 0 _ rfl, h1 1 _ rfl, h1 2 _ rfl⟩
theorem RdP.at {w : World} {B : Nat} {v : Value} {l : List (K × K)} (h : RdP w B v l) : ∃ A c, v = .slice A l.length c ∧ l.length ≤ c ∧ ∀ i (_ : i < l.length), ∃ b o, A = some ⟨b, o, none⟩ ∧ b < B ∧
    w.cell? ⟨b, o + i * 2, none⟩ = some (.string l[i].1) ∧ w.cell? ⟨b, o + i * 2 + 1, none⟩ = some (.string l[i].2) := by
  obtain ⟨A, c, hv, hc, hi⟩ := h
  refine ⟨A, c, hv, hc, fun i hs => ?_⟩
  obtain ⟨b, o, hA, hB, h1⟩ := hi i hs
  exact ⟨b, o, hA, hB, h1 0 _ rfl, h1 1 _ rfl⟩

/-- what Check answers -/
def checkAns (c : Chg) : Int :=
  if c.kind = 1 then (if c.key.size > 16 ∨ c.val.size > 64 then 6 else 0)
  else if c.kind = 2 then (if c.key.size > 16 ∨ c.val.size > 0 then 6 else 0)
  else if c.kind = 3 then (if c.key.size > 17 ∨ c.val.size > 17 then 6 else if c.val < c.key then 5 else 0)
  else 1
/-- the keys that a change names -/
def cspan (c : Chg) : K × K := if c.kind = 3 then (c.key, c.val) else (c.key, c.key ++ ⟨#[0]⟩)

def smallC (c : Chg) : Prop := c.key.size < 4611686018427387904 ∧ c.val.size < 4611686018427387904
/-- the first error -/
def allAns : List Chg → Int
  | [] => 0
  | c :: r => if checkAns c = 0 then allAns r else checkAns c

set_option maxHeartbeats 4000000 in
set_option maxRecDepth 100000 in
theorem pcheck_any (c : Chg) (w : World) (hk : c.key.size < 9223372036854775807) (hv : c.val.size < 9223372036854775807) : Calls Tryz.prog 132 #[cval c] w fun e w' => e = .returned (.int .i64 (checkAns c)) ∧ Below w.heap.size w w' := by
  obtain ⟨k, x, y⟩ := c
  obtain ⟨R, hR⟩ : ∃ R, R = checkAns ⟨k, x, y⟩ := ⟨_, rfl⟩
  rw [← hR]
  unfold checkAns at hR
  unfold cval
  simp only at hR hk hv ⊢
  have HB := Lib.hid (((Below.refl _ w).alloc (Nat.le_refl _) (.cells #[.int .i64 k, .string x, .string y] 43)))
  by_cases h1 : k = 1
  · rw [if_pos h1] at hR
    subst h1
    by_cases ha : x.size > 16
    · rw [if_pos (.inl ha)] at hR
      have HR := Lib.hid hR; clear hR
      have ha1 : (16 : Int) < (x.size : Int) := by omega
      go_enter Tryz.func132, Tryz.ntmps132
      go_wp2_with fail
      go_ret
      exact ⟨by rw [HR.out]; rfl, HB.out⟩
    have ha1 : ¬ (16 : Int) < (x.size : Int) := by omega
    by_cases hb : y.size > 64
    · rw [if_pos (.inr hb)] at hR
      have HR := Lib.hid hR; clear hR
      have hb1 : (64 : Int) < (y.size : Int) := by omega
      go_enter Tryz.func132, Tryz.ntmps132
      go_wp2_with fail
      go_ret
      exact ⟨by rw [HR.out]; rfl, HB.out⟩
    rw [if_neg (by omega)] at hR
    have hb1 : ¬ (64 : Int) < (y.size : Int) := by omega
    have HR := Lib.hid hR; clear hR
    go_enter Tryz.func132, Tryz.ntmps132
    go_wp2_with fail
    go_ret
    exact ⟨by rw [HR.out]; rfl, HB.out⟩
  by_cases h2 : k = 2
  · rw [if_neg h1, if_pos h2] at hR
    subst h2
    clear h1
    by_cases hb : y = ⟨#[]⟩
    · subst hb
      by_cases ha : x.size > 16
      · rw [if_pos (.inl ha)] at hR
        have HR := Lib.hid hR; clear hR
        have ha1 : (16 : Int) < (x.size : Int) := by omega
        go_enter Tryz.func132, Tryz.ntmps132
        go_wp2_with fail
        go_ret
        exact ⟨by rw [HR.out]; rfl, HB.out⟩
      have ha1 : ¬ (16 : Int) < (x.size : Int) := by omega
      rw [if_neg (by have h0 : (⟨#[]⟩ : ByteArray).size = 0 := rfl
                     omega)] at hR
      have HR := Lib.hid hR; clear hR
      go_enter Tryz.func132, Tryz.ntmps132
      go_wp2_with fail
      go_ret
      exact ⟨by rw [HR.out]; rfl, HB.out⟩
    · have hy : y.size > 0 := by
        rcases Nat.eq_zero_or_pos y.size with h | h
        · exact absurd (ByteArray.ext (Array.eq_empty_of_size_eq_zero h)) hb
        · exact h
      have hne : (ByteArray.toList y).isEmpty = false := by
        rw [Lib.toList_data]
        cases hd : y.data.toList with
        | nil => exact absurd (ByteArray.ext (Array.toList_eq_nil_iff.1 hd)) hb
        | cons a r => rfl
      rw [if_pos (.inr hy)] at hR
      have HR := Lib.hid hR; clear hR
      go_enter Tryz.func132, Tryz.ntmps132
      go_wp2_with fail
      go_ret
      exact ⟨by rw [HR.out]; rfl, HB.out⟩
  by_cases h3 : k = 3
  · rw [if_neg h1, if_neg h2, if_pos h3] at hR
    subst h3
    clear h1 h2
    by_cases ha : x.size > 17
    · rw [if_pos (.inl ha)] at hR
      have HR := Lib.hid hR; clear hR
      have ha1 : (17 : Int) < (x.size : Int) := by omega
      go_enter Tryz.func132, Tryz.ntmps132
      go_wp2_with fail
      go_ret
      exact ⟨by rw [HR.out]; rfl, HB.out⟩
    have ha1 : ¬ (17 : Int) < (x.size : Int) := by omega
    by_cases hb : y.size > 17
    · rw [if_pos (.inr hb)] at hR
      have HR := Lib.hid hR; clear hR
      have hb1 : (17 : Int) < (y.size : Int) := by omega
      go_enter Tryz.func132, Tryz.ntmps132
      go_wp2_with fail
      go_ret
      exact ⟨by rw [HR.out]; rfl, HB.out⟩
    rw [if_neg (by omega)] at hR
    have hb1 : ¬ (17 : Int) < (y.size : Int) := by omega
    by_cases hl : y < x
    · rw [if_pos hl] at hR
      have HR := Lib.hid hR; clear hR
      go_enter Tryz.func132, Tryz.ntmps132
      go_wp2_with fail
      go_ret
      exact ⟨by rw [HR.out]; rfl, HB.out⟩
    rw [if_neg hl] at hR
    have HR := Lib.hid hR; clear hR
    go_enter Tryz.func132, Tryz.ntmps132
    go_wp2_with fail
    go_ret
    exact ⟨by rw [HR.out]; rfl, HB.out⟩
  rw [if_neg h1, if_neg h2, if_neg h3] at hR
  have HR := Lib.hid hR; clear hR
  go_enter Tryz.func132, Tryz.ntmps132
  go_wp2_with fail
  go_ret
  exact ⟨by rw [HR.out]; rfl, HB.out⟩

theorem chg_guard : Tryz.prog.eqGuardType Tryz.prog.depth 43 = false := by kernel_rfl
set_option maxRecDepth 100000 in
theorem eql_chg (k m : Int) (a b c d : K) (W : World) : (binOp .eql 43 (.agg #[.int .i64 k, .string a, .string b]) (.agg #[.int .i64 m, .string c, .string d])).run Tryz.prog W = .ok (.bool (decide (k = m) && decide (a = c) && decide (b = d))) W := by
  have hS : Tryz.prog.underlying 43 = some (.struct (Tryz.prog.fieldsOf 43)) := by kernel_rfl
  have hp : Tryz.prog.stoodInHeld 43 = false := by kernel_rfl
  have u0 := Tryz.underlying3
  have ag0 := Tryz.isAgg3
  have sz0 := Tryz.sizeOf3
  have u1 := Tryz.underlying9
  have ag1 := Tryz.isAgg9
  have sz1 := Tryz.sizeOf9
  rw [run_eql_struct, show (10000 : Nat) = 9999 + 1 from rfl, run_equalIn_agg W 9999 43 _ _ hS hp]
  simp only [Program.fieldsOf, Tryz.underlying43]
  go_simp
  by_cases h0 : k = m <;> by_cases h1 : a = c <;> by_cases h2 : b = d <;> simp [h0, h1, h2]
set_option maxRecDepth 100000 in
theorem neq_chg (k m : Int) (a b c d : K) (W : World) : (binOp .neq 43 (.agg #[.int .i64 k, .string a, .string b]) (.agg #[.int .i64 m, .string c, .string d])).run Tryz.prog W = .ok (.bool (!(decide (k = m) && decide (a = c) && decide (b = d)))) W := by
  have h := eql_chg k m a b c d W
  rw [run_eql_struct] at h
  rw [run_neq_struct]
  cases hr : (Op.equalIn 10000 43 (.agg #[.int .i64 k, .string a, .string b]) (.agg #[.int .i64 m, .string c, .string d])).run Tryz.prog W with
  | ok x w' => rw [hr] at h; simp only [Result.andThen] at h ⊢; injection h with h1 h2; subst h2; injection h1 with h1; rw [h1]
  | halt x w' => rw [hr] at h; simp [Result.andThen] at h

set_option maxHeartbeats 2000000 in
set_option maxRecDepth 100000 in
theorem chgs_any (a b : List Chg) (va vb : Value) (w : World) (hva : RdC w w.heap.size va a) (hvb : RdC w w.heap.size vb b) (hla : a.length < 4611686018427387904) (_hlb : b.length < 4611686018427387904) :
    Calls Tryz.prog 70 #[va, vb] w fun e w' => e = .returned (.bool (decide (a = b))) ∧ Below w.heap.size w w' := by
  obtain ⟨A1, c1, rfl, hc1, hia⟩ := hva.at
  obtain ⟨A2, c2, rfl, hc2, hib⟩ := hvb.at
  obtain ⟨D, hD⟩ : ∃ D, D = decide (a = b) := ⟨_, rfl⟩
  rw [← hD]
  have HD := Lib.hid hD; clear hD
  clear hva hvb
  by_cases hlen : a.length = b.length
  · have HA := Lib.hid hia; clear hia
    have HB := Lib.hid hib; clear hib
    have HL := Lib.hid hlen
    rw [← hlen]
    rw [← hlen] at hc2
    clear hlen
    obtain ⟨g, hg⟩ : ∃ g, g = w.heap.size := ⟨_, rfl⟩
    have HG := Lib.hid hg; clear hg
    go_enter Tryz.func70, Tryz.ntmps70
    go_wp2_with fail
    go_loopw [5] (fun iv wr => ∃ j : Nat, j ≤ a.length ∧ iv = .int .i64 j ∧ Below g w wr ∧ ∀ k (h1 : k < a.length) (h2 : k < b.length), k < j → a[k] = b[k]) (fun iv _ => a.length - (intOf iv).toNat)
    case atStart => exact ⟨0, Nat.zero_le _, rfl, Below.refl _ _, fun k _ _ h => by omega⟩
    case round =>
      obtain ⟨j, hj, rfl, hbw, hall⟩ := hrel
      have HBW := Lib.hid hbw; clear hbw
      have HALL := Lib.hid hall; clear hall
      by_cases hlt : j < a.length
      · have hlt2 : j < b.length := by rw [← HL.out]; exact hlt
        obtain ⟨b1, o1, rfl, hb1, x0, x1, x2⟩ := HA.out j hlt
        obtain ⟨b2, o2, rfl, hb2, y0, y1, y2⟩ := HB.out j hlt2
        have hbd : Below w.heap.size w wr.drew := by have h := HBW.out.drew; rwa [HG.out] at h
        have hx2 : ∀ W, Below wr.drew.heap.size wr.drew W → W.cell? ⟨b1, o1 + j * 3, none⟩ = some (.int .i64 a[j].kind) ∧ W.cell? ⟨b1, o1 + j * 3 + 1, none⟩ = some (.string a[j].key) ∧ W.cell? ⟨b1, o1 + j * 3 + 2, none⟩ = some (.string a[j].val) := fun W hW => ⟨((hbd.trans (hW.mono hbd.size)).cell (p := ⟨_, _, none⟩) hb1).trans x0, ((hbd.trans (hW.mono hbd.size)).cell (p := ⟨_, _, none⟩) hb1).trans x1, ((hbd.trans (hW.mono hbd.size)).cell (p := ⟨_, _, none⟩) hb1).trans x2⟩
        have hy2 : ∀ W, Below wr.drew.heap.size wr.drew W → W.cell? ⟨b2, o2 + j * 3, none⟩ = some (.int .i64 b[j].kind) ∧ W.cell? ⟨b2, o2 + j * 3 + 1, none⟩ = some (.string b[j].key) ∧ W.cell? ⟨b2, o2 + j * 3 + 2, none⟩ = some (.string b[j].val) := fun W hW => ⟨((hbd.trans (hW.mono hbd.size)).cell (p := ⟨_, _, none⟩) hb2).trans y0, ((hbd.trans (hW.mono hbd.size)).cell (p := ⟨_, _, none⟩) hb2).trans y1, ((hbd.trans (hW.mono hbd.size)).cell (p := ⟨_, _, none⟩) hb2).trans y2⟩
        have hne : a[j] ≠ b[j] → D = false := fun h => by rw [HD.out]; exact decide_eq_false fun e => h (by subst e; rfl)
        have heq : a[j] = b[j] → ∀ k (h1 : k < a.length) (h2 : k < b.length), k < j + 1 → a[k] = b[k] := fun h k h1 h2 hk => by
          rcases Nat.lt_or_ge k j with h' | h'
          · exact HALL.out k h1 h2 h'
          · obtain rfl : k = j := by omega
            exact h
        clear x0 x1 x2 y0 y1 y2
        generalize a[j] = x at hx2 hne heq
        generalize b[j] = y at hy2 hne heq
        have HX := Lib.hid hx2
        have HY := Lib.hid hy2
        have HNE := Lib.hid hne
        have HEQ := Lib.hid heq
        have hj0 : (0 : Int) ≤ (j : Int) := by omega
        have hj1 : (j : Int) < (a.length : Int) := by omega
        have HBD := Lib.hid hbd
        clear hx2 hy2 hne heq hbd hlt2
        by_cases hxy : x = y
        · have HN := Lib.hid (show ∀ W : World, (binOp .neq 43 (.agg #[.int .i64 x.kind, .string x.key, .string x.val]) (.agg #[.int .i64 y.kind, .string y.key, .string y.val])).run Tryz.prog W = .ok (.bool false) W from fun W => by rw [neq_chg]; subst hxy; simp)
          go_wp2_with fail
          refine wp_region_planB [(true, 0), (true, 1), (true, 2), (true, 3), (true, 4), (true, 5), (true, 6), (true, 7), (true, 8)] (by kernel_rfl) (by kernel_rfl) (fun _ _ d _ _ h => by cases d <;> exact h) ?_
          repeat (refine PlanB.take (v := ?_) rfl rfl ?_ ?_; rotate_left; (focus (intro W hW; obtain ⟨k0, k1, k2⟩ := HX.out W hW; obtain ⟨j0, j1, j2⟩ := HY.out W hW; have kn := HN.out W; have kg := chg_guard; go_simp; (try with_reducible rfl); done)); (try simp only [Act.put, List.setIfInBounds_toArray, List.set_cons_zero, List.set_cons_succ]))
          simp only [PlanB]
          go_wp2_with fail
          go_roundw
          case rel => exact ⟨j + 1, by omega, by go_num, HBW.out.drew, HEQ.out hxy⟩
          case measure => simp [intOf]; omega
        · have hd3 : ¬ x.kind = y.kind ∨ (x.kind = y.kind ∧ ¬ x.key = y.key) ∨ (x.kind = y.kind ∧ x.key = y.key ∧ ¬ x.val = y.val) := by
            by_cases h1 : x.kind = y.kind
            · by_cases h2 : x.key = y.key
              · exact .inr (.inr ⟨h1, h2, fun h3 => hxy (by cases x; cases y; simp only at h1 h2 h3; subst h1 h2 h3; rfl)⟩)
              · exact .inr (.inl ⟨h1, h2⟩)
            · exact .inl h1
          rcases hd3 with h1 | ⟨h1, h2⟩ | ⟨h1, h2, h3⟩
          all_goals
            go_wp2_with fail
            refine wp_region_planB [(true, 0), (true, 1), (true, 2), (true, 3), (true, 4), (true, 5), (true, 6), (true, 7), (true, 8)] (by kernel_rfl) (by kernel_rfl) (fun _ _ d _ _ h => by cases d <;> exact h) ?_
            repeat (refine PlanB.take (v := ?_) rfl rfl ?_ ?_; rotate_left; (focus (intro W hW; obtain ⟨k0, k1, k2⟩ := HX.out W hW; obtain ⟨j0, j1, j2⟩ := HY.out W hW; have kg := chg_guard; go_simp; (try with_reducible rfl); done)); (try simp only [Act.put, List.setIfInBounds_toArray, List.set_cons_zero, List.set_cons_succ]))
            simp only [PlanB]
            go_wp2_with fail
            go_ret
            exact ⟨by rw [HNE.out hxy]; rfl, HBD.out⟩
      · go_wp2_with fail
        go_ret
        refine ⟨?_, by have h := HBW.out; rwa [HG.out] at h⟩
        have : D = true := by
          rw [HD.out]
          refine decide_eq_true (List.ext_getElem HL.out fun k h1 h2 => HALL.out k h1 h2 (by omega))
        rw [this]; rfl
  · have hd : D = false := by rw [HD.out]; exact decide_eq_false fun e => hlen (by rw [e])
    have HD2 := Lib.hid hd
    have hli : ¬ ((a.length : Int) = (b.length : Int)) := by omega
    clear hd hia hib
    go_enter Tryz.func70, Tryz.ntmps70
    go_wp2_with fail
    go_ret
    exact ⟨by rw [HD2.out]; rfl, Below.refl _ _⟩
end Go.Proofs.YtmigninibdecmaaGreat
namespace Go.Proofs.YtmigninibdecmaaGreat

theorem u8_ofNat {x : Nat} (h : x < 256) : (UInt8.ofNat x).toNat = x := by simp; omega

/-- a number's bytes -/
def enc (n : Nat) : List UInt8 := if n > 127 then UInt8.ofNat (128 + n % 128) :: enc (n / 128) else [UInt8.ofNat n]
decreasing_by omega
theorem enc_big {n : Nat} (h : n > 127) : enc n = UInt8.ofNat (128 + n % 128) :: enc (n / 128) := by rw [enc, if_pos h]
theorem enc_small {n : Nat} (h : n ≤ 127) : enc n = [UInt8.ofNat n] := by rw [enc, if_neg (by omega)]
theorem enc_ne (n : Nat) : enc n ≠ [] := by
  rw [enc]; split <;> simp
theorem enc_pos (n : Nat) : 1 ≤ (enc n).length := by
  have := enc_ne n
  cases h : enc n with
  | nil => exact absurd h this
  | cons => simp
/-- how many bytes a number has -/
theorem enc_len : ∀ (k n : Nat), n < 128 ^ (k + 1) → (enc n).length ≤ k + 1
  | 0, n, h => by rw [enc_small (by omega)]; simp
  | k + 1, n, h => by
    by_cases hn : n > 127
    · rw [enc_big hn, List.length_cons]
      have := enc_len k (n / 128) (by rw [Nat.pow_succ] at h; omega)
      omega
    · rw [enc_small (by omega)]; simp
theorem enc_len9 {n : Nat} (h : n < 9223372036854775808) : (enc n).length ≤ 9 := enc_len 8 n (by omega)
theorem enc_mono : ∀ (n m : Nat), n ≤ m → (enc n).length ≤ (enc m).length := by
  intro n
  induction n using Nat.strongRecOn with
  | ind n ih =>
    intro m hm
    by_cases hn : n > 127
    · rw [enc_big hn, enc_big (n := m) (by omega), List.length_cons, List.length_cons]
      have := ih (n / 128) (by omega) (m / 128) (by omega)
      omega
    · rw [enc_small (by omega)]
      exact enc_pos m

/-- what the reading of a number answers, behind i bytes of it: the number, how many bytes, the error -/
def numGo : Nat → Nat → Nat → List UInt8 → Nat × Nat × Nat
  | i, _, _, [] => if i ≥ 9 then (0, 0, 2) else (0, 0, 3)
  | i, n, t, c :: r => if i ≥ 9 then (0, 0, 2) else
    if c.toNat < 128 then (if c.toNat = 0 ∧ i > 0 then (0, 0, 2) else (n + c.toNat % 128 * t, i + 1, 0)) else numGo (i + 1) (n + c.toNat % 128 * t) (t * 128) r
def numAns (l : List UInt8) : Nat × Nat × Nat := numGo 0 0 1 l

/-- a number that was laid comes back, whatever stands behind -/
theorem numGo_enc (s : List UInt8) : ∀ (n i a t : Nat), i + (enc n).length ≤ 9 → (i > 0 → n > 0) → numGo i a t (enc n ++ s) = (a + n * t, i + (enc n).length, 0) := by
  intro n
  induction n using Nat.strongRecOn with
  | ind n ih =>
    intro i a t hi h0
    by_cases hn : n > 127
    · rw [enc_big hn, List.length_cons] at hi
      rw [enc_big hn, List.cons_append, numGo, if_neg (by omega), u8_ofNat (by omega), if_neg (by omega), ih (n / 128) (by omega) (i + 1) _ _ (by omega) (by omega), List.length_cons]
      rw [show (128 + n % 128) % 128 = n % 128 by omega]
      have e : n * t = n % 128 * t + n / 128 * (t * 128) := by
        conv => lhs; rw [← Nat.mod_add_div n 128]
        rw [Nat.add_mul]
        congr 1
        rw [Nat.mul_comm 128, Nat.mul_assoc, Nat.mul_comm 128 t]
      rw [e]
      simp only [Prod.mk.injEq, and_true]
      omega
    · rw [enc_small (by omega)] at hi ⊢
      simp only [List.length_singleton] at hi ⊢
      rw [List.singleton_append, numGo, if_neg (by omega), u8_ofNat (by omega), if_pos (by omega), if_neg (by omega), show n % 128 = n by omega]
theorem numAns_enc {n : Nat} (h : n < 9223372036854775808) (s : List UInt8) : numAns (enc n ++ s) = (n, (enc n).length, 0) := by
  have := numGo_enc s n 0 0 1 (by have := enc_len9 h; omega) (by omega)
  simpa [numAns] using this
/-- cut off, it is told to be -/
theorem numGo_cut : ∀ (n i a t k : Nat), i + (enc n).length ≤ 9 → k < (enc n).length → numGo i a t ((enc n).take k) = (0, 0, 3) := by
  intro n
  induction n using Nat.strongRecOn with
  | ind n ih =>
    intro i a t k hi hk
    match k with
    | 0 => rw [List.take_zero, numGo, if_neg (by have := enc_pos n; omega)]
    | k + 1 =>
      by_cases hn : n > 127
      · rw [enc_big hn, List.length_cons] at hi hk
        rw [enc_big hn, List.take_succ_cons, numGo, if_neg (by omega), u8_ofNat (by omega), if_neg (by omega)]
        exact ih (n / 128) (by omega) _ _ _ _ (by omega) (by omega)
      · rw [enc_small (by omega)] at hk
        simp at hk
theorem numAns_cut {n k : Nat} (h : n < 9223372036854775808) (hk : k < (enc n).length) : numAns ((enc n).take k) = (0, 0, 3) :=
  numGo_cut n 0 0 1 k (by have := enc_len9 h; omega) hk

/-- bytes that are read as a number are that number's bytes -/
theorem numGo_once : ∀ (l : List UInt8) (i a t m u : Nat), numGo i a t l = (m, u, 0) → ∃ n, m = a + n * t ∧ u = i + (enc n).length ∧ u ≤ 9 ∧ (i > 0 → n > 0) ∧ ∃ s, l = enc n ++ s
  | [], i, a, t, m, u, h => by
    rw [numGo] at h
    split at h <;> simp at h
  | c :: r, i, a, t, m, u, h => by
    have hc : c.toNat < 256 := c.toNat_lt
    rw [numGo] at h
    by_cases hi : i ≥ 9
    · rw [if_pos hi] at h; simp at h
    · rw [if_neg hi] at h
      by_cases hs : c.toNat < 128
      · rw [if_pos hs] at h
        by_cases hz : c.toNat = 0 ∧ i > 0
        · rw [if_pos hz] at h; simp at h
        · rw [if_neg hz] at h
          simp only [Prod.mk.injEq, and_true] at h
          refine ⟨c.toNat, by rw [← h.1]; congr 2; omega, ?_, by omega, by omega, r, ?_⟩
          · rw [enc_small (by omega)]; simp; omega
          · rw [enc_small (by omega)]; simp
      · rw [if_neg hs] at h
        obtain ⟨n, h1, h2, h3, h4, s, rfl⟩ := numGo_once r _ _ _ _ _ h
        have hn := h4 (by omega)
        have hb : c.toNat % 128 + 128 * n > 127 := by omega
        refine ⟨c.toNat % 128 + 128 * n, ?_, ?_, h3, by omega, s, ?_⟩
        · rw [h1, Nat.add_mul, Nat.add_assoc]
          congr 2
          rw [Nat.mul_comm t, ← Nat.mul_assoc, Nat.mul_comm n]
        · rw [h2, enc_big hb, List.length_cons, show (c.toNat % 128 + 128 * n) / 128 = n by omega]
          omega
        · rw [enc_big hb, show (c.toNat % 128 + 128 * n) / 128 = n by omega, show 128 + (c.toNat % 128 + 128 * n) % 128 = c.toNat by omega]
          simp
theorem numAns_once {l : List UInt8} {m u : Nat} (h : numAns l = (m, u, 0)) : u = (enc m).length ∧ u ≤ 9 ∧ 1 ≤ u ∧ ∃ s, l = enc m ++ s := by
  obtain ⟨n, h1, h2, h3, _, s, rfl⟩ := numGo_once l _ _ _ _ _ h
  simp only [Nat.zero_add, Nat.mul_one] at h1 h2
  subst h1
  have := enc_pos m
  exact ⟨h2, h3, by omega, s, rfl⟩
/-- what is answered beside an error -/
theorem numGo_err : ∀ (l : List UInt8) (i a t : Nat), (numGo i a t l).2.2 = 0 ∨ numGo i a t l = (0, 0, 2) ∨ numGo i a t l = (0, 0, 3)
  | [], i, a, t => by rw [numGo]; split <;> simp
  | c :: r, i, a, t => by
    rw [numGo]
    split
    · simp
    · split
      · split <;> simp
      · exact numGo_err r _ _ _
theorem numAns_err (l : List UInt8) : (numAns l).2.2 = 0 ∨ numAns l = (0, 0, 2) ∨ numAns l = (0, 0, 3) := numGo_err l 0 0 1
/-- the number fits -/
theorem enc_lt {n : Nat} (h : (enc n).length ≤ 9) : n < 9223372036854775808 := by
  have key : ∀ (k n : Nat), (enc n).length ≤ k + 1 → n < 128 ^ (k + 1) := by
    intro k
    induction k with
    | zero =>
      intro n h
      by_cases hn : n > 127
      · rw [enc_big hn, List.length_cons] at h
        have := enc_pos (n / 128); omega
      · omega
    | succ k ih =>
      intro n h
      by_cases hn : n > 127
      · rw [enc_big hn, List.length_cons] at h
        have := ih (n / 128) (by omega)
        rw [Nat.pow_succ]; omega
      · have : 1 ≤ 128 ^ (k + 1) := Nat.pow_pos (by decide)
        rw [Nat.pow_succ]; omega
  exact key 8 n (by omega)
theorem enc_inj {n m : Nat} (hn : n < 9223372036854775808) (h : enc n = enc m) : n = m := by
  have h9 := enc_len9 hn
  have hm := enc_lt (n := m) (by rw [← h]; exact h9)
  have a := numAns_enc hn []
  have b := numAns_enc hm []
  rw [h, b] at a
  simpa using (congrArg (·.1) a).symm
end Go.Proofs.YtmigninibdecmaaGreat
namespace Go.Proofs.YtmigninibdecmaaGreat
open Go.RowKit

/-- three results: a number, how many bytes, the error -/
def numVal (x : Nat × Nat × Nat) : Value := .tuple #[.int .i64 (x.1 : Int), .int .i64 (x.2.1 : Int), .int .i64 (x.2.2 : Int)]

end Go.Proofs.YtmigninibdecmaaGreat
namespace Go.Proofs.YtmigninibdecmaaGreat
open Go.RowKit

/-- what Text answers: the text, how many bytes, the error -/
def textAns (l : List UInt8) : List UInt8 × Nat × Nat :=
  if (numAns l).2.2 ≠ 0 then ([], 0, (numAns l).2.2) else if (numAns l).1 > 65536 then ([], 0, 6)
  else if l.length - (numAns l).2.1 < (numAns l).1 then ([], 0, 3) else ((l.drop (numAns l).2.1).take (numAns l).1, (numAns l).2.1 + (numAns l).1, 0)
def textVal (x : List UInt8 × Nat × Nat) : Value := .tuple #[.string (strB x.1), .int .i64 (x.2.1 : Int), .int .i64 (x.2.2 : Int)]

set_option maxRecDepth 100000 in
/-- a window of bytes -/
theorem RdB.window {w : World} {B b o c : Nat} {l : List UInt8} (h : RdB w B (.slice (some ⟨b, o, none⟩) l.length c) l) (lo n : Nat) (hn : lo + n ≤ l.length) (c' : Nat) (hc : n ≤ c') (A' : Option Addr) (hA : 0 < n → A' = some ⟨b, o + lo, none⟩) :
    RdB w B (.slice A' n c') ((l.drop lo).take n) := by
  obtain ⟨A, c0, hv, hcl, hi⟩ := h
  injection hv with e1 e2 e3
  subst e1 e3
  have hlen : ((l.drop lo).take n).length = n := by simp; omega
  refine ⟨A', c', by rw [hlen], by rw [hlen]; exact hc, fun i hi' => ?_⟩
  have hin : i < n := by omega
  obtain ⟨b', o', hA', hB, h1⟩ := hi (lo + i) (by omega)
  simp only [Option.some.injEq, Addr.mk.injEq, and_true] at hA'
  obtain ⟨rfl, rfl⟩ := hA'
  refine ⟨b, o + lo, hA (by omega), hB, fun j u hu => ?_⟩
  have := h1 j u (by simpa using hu)
  rw [← this]
  congr 2
  omega

end Go.Proofs.YtmigninibdecmaaGreat
namespace Go.Proofs.YtmigninibdecmaaGreat
open Go.RowKit

end Go.Proofs.YtmigninibdecmaaGreat
namespace Go.Proofs.YtmigninibdecmaaGreat
open Go.RowKit

set_option maxRecDepth 100000 in
theorem strCells_bytes (s : ByteArray) : Lib.strCells s = cellsB s.data.toList := rfl
set_option maxRecDepth 100000 in
theorem data_len (s : ByteArray) : s.data.toList.length = s.size := by simp

set_option maxRecDepth 100000 in
theorem run_append_str (w : World) (base : Nat) (ty : TypeId) (v : Value) (l : List UInt8) (ho : OwnB w base v l) (s : ByteArray) (hlen : l.length + s.size ≤ 225179981368000) (hs : s.size ≤ 140737488355328) (hb : base ≤ w.heap.size) :
    ∃ v' w', (Builtin.append_ #[41, 9] ty #[v, .string s]).run Tryz.prog w = .ok v' w' ∧ OwnB w' base v' (l ++ s.data.toList) ∧ w.grownBy w' v.ownBlock := by
  obtain ⟨i0, hi, hz0, hz1, hz2⟩ := info_parts info_u8
  have small : l.length + s.size ≤ 140737488355328 → ∃ v' w', (Builtin.append_ #[41, 9] ty #[v, .string s]).run Tryz.prog w = .ok v' w' ∧ OwnB w' base v' (l ++ s.data.toList) ∧ w.grownBy w' v.ownBlock := fun hle => by
    obtain ⟨v', w', h1, h2, h3, _⟩ := Lib.run_append_own_string (P := Tryz.prog) w base 41 9 ty 5 i0 Tryz.underlying41 Tryz.underlying9 hi hz0 hz1 hz2 v l.length _ ho s (by unfold maxLen; omega) hle hb
    refine ⟨v', w', h1, ?_, h3⟩
    show w'.ownsRow base _ 1 v' _ _
    rw [List.length_append, data_len, flat_cellsB, cellsB_append, ← strCells_bytes, ← flat_cellsB]
    exact h2
  by_cases hle : l.length + s.size ≤ 140737488355328
  · exact small hle
  rcases ho.form with ⟨_, h0⟩ | ⟨g, cap, rfl, hbg, hglt, hnc⟩
  · rw [h0] at hle; simp at hle; omega
  have hfl : flatG byteEnc (l ++ s.data.toList) = cellsB l ++ Lib.strCells s := by rw [flat_cellsB, cellsB_append, strCells_bytes]
  have hll : (l ++ s.data.toList).length = l.length + s.size := by rw [List.length_append, data_len]
  have hcl := cellsB_len l
  have hsl := Lib.strCells_length s
  rcases ho.2 with ⟨h', _⟩ | ⟨g', cap', cur, h', _, hg, _, hcm, hcs, htake⟩
  · simp at h'
  simp only [Value.slice.injEq, Option.some.injEq, Addr.mk.injEq, and_true, true_and] at h'
  obtain ⟨rfl, rfl⟩ := h'
  rw [flat_cellsB, Nat.mul_one] at htake
  rw [Nat.mul_one] at hcs
  by_cases hroom : l.length + s.size ≤ cap
  · have hr := Lib.run_append_room_string (P := Tryz.prog) w 41 9 ty 5 i0 Tryz.underlying41 Tryz.underlying9 hi hz1 g l.length cap cur hg s hroom (by omega)
    refine ⟨_, _, hr, ⟨by rw [hfl, List.length_append, hcl, hsl, hll, Nat.mul_one], .inr ⟨g, cap, _, by rw [hll], hbg, setRow_heap w g cur _ _ _ hg, by rw [hll]; exact hroom, hcm, ?_, ?_⟩⟩, ⟨rfl, rfl, rfl, by simp, fun k _ hk => setRow_other w g k _ (fun e => hk (by simp [Value.ownBlock, e]))⟩⟩
    · simp only [List.size_toArray, List.length_append, List.length_take, List.length_drop, Array.length_toList, hsl]
      omega
    · rw [htake, hfl, hll, Nat.mul_one]
      exact List.take_left' (by rw [List.length_append, hcl, hsl])
  · have hold : ∀ j u, (cellsB l)[j]? = some u → w.cell? ((⟨g, 0, none⟩ : Addr).add j) = some u := by
      have := World.ownsRow.cells ho (g := g) rfl
      rwa [flat_cellsB] at this
    have hr := Lib.run_append_grow_string (P := Tryz.prog) w 41 9 ty 5 i0 _ Tryz.underlying41 Tryz.underlying9 hi hz0 ⟨g, 0, none⟩ l.length cap (cellsB l) (by rw [hz1, hcl, Nat.mul_one]) hold s (by omega) (by omega) (growslice_fits_wide (by omega) (by rw [hz2]; omega))
    have hge := grownCap_ge w (l.length + s.size) cap 5
    have hgm := grownCap_le_maxLen w (l.length + s.size) cap 5 (by unfold maxLen; omega)
    refine ⟨_, _, hr, ⟨by rw [hfl, List.length_append, hcl, hsl, hll, Nat.mul_one], .inr ⟨w.heap.size, _, _, by rw [hll], hb, heap_alloc_new w.drew _, by rw [hll]; exact hge, hgm, ?_, ?_⟩⟩, ⟨rfl, rfl, rfl, by simp, fun k hk _ => heap_alloc_old w.drew _ hk⟩⟩
    · have hz : (Value.int IntKind.u8 0).cells.size = 1 := rfl
      simp only [Array.size_append, List.size_toArray, size_zeroCells, hz, hcl, hsl]
      omega
    · rw [hfl, hll, Nat.mul_one]
      simp only [Array.toList_append]
      exact List.take_left' (by rw [List.length_append, hcl, hsl])

set_option maxRecDepth 100000 in
theorem wpList_addStr {ops : Array Oper} {rest : List Oper} {o : Oper} {a : Act} {Q : Exit → Act → World → Prop} {w : World} (hw : Region.wanted o (yielded ops a.tmps) = true) (sl x : Operand)
    (ho : o.op = .call { callee := .builtin .append, args := #[sl, x], argTypes := #[41, 9] })
    (base : Nat) (v : Value) (l : List UInt8) (hs : a.eval sl = v) (hown : OwnB w base v l) (s : ByteArray) (hx : a.eval x = .string s)
    (hlen : l.length + s.size ≤ 225179981368000) (hs47 : s.size ≤ 140737488355328) (hbase : base ≤ w.heap.size) (C : Nat) (w0 : World) (hb : Below C w0 w) (hC : C ≤ base)
    (h : ∀ A' c' w', Hid (OwnB w' base (.slice A' (l ++ s.data.toList).length c') (l ++ s.data.toList)) → Hid (Below C w0 w') → Hid (base ≤ w'.heap.size) → wpList Tryz.prog ops Q rest (a.put o.dst (.slice A' (l ++ s.data.toList).length c')) w') : wpList Tryz.prog ops Q (o :: rest) a w := by
  refine BigFrame.wpList_want hw fun K hK => ?_
  obtain ⟨v', w', hr, h2, h3⟩ := run_append_str w base o.type v l hown s hlen hs47 hbase
  have hv : ∃ A' c', v' = .slice A' (l ++ s.data.toList).length c' := by
    rcases h2.form with ⟨hv, h0⟩ | ⟨g, cap, hv, _⟩
    · exact ⟨none, 0, by rw [h0]; exact hv⟩
    · exact ⟨_, _, hv⟩
  obtain ⟨A', c', rfl⟩ := hv
  unfold Oper.wp execOp
  simp only [ho, resolve, invoke, builtin, Sem.run_bind, Sem.run_pure, Result.andThen_ok, List.map_toArray, List.map_cons, List.map_nil, hs, hx, hr]
  exact hK _ _ (h A' c' w' (Lib.hid h2) (Lib.hid (hown.grown hb h3 hC (Nat.le_trans hC hbase))) (Lib.hid (Nat.le_trans hbase h3.size)))
end Go.Proofs.YtmigninibdecmaaGreat
namespace Go.Proofs.YtmigninibdecmaaGreat
open Go.RowKit

/-- a text's bytes -/
def encT (s : List UInt8) : List UInt8 := enc s.length ++ s

/-- what PutNum and PutText answer: the bytes, and the error -/
def putAns (l : List UInt8) (n : Int) : List UInt8 × Int := if n < 0 then ([], 5) else (l ++ enc n.toNat, 0)
def putTAns (l : List UInt8) (s : ByteArray) : List UInt8 × Int := if s.size > 65536 then ([], 6) else (l ++ encT s.data.toList, 0)

end Go.Proofs.YtmigninibdecmaaGreat
namespace Go.Proofs.YtmigninibdecmaaGreat
open Go.ChangeShapes Go.WideShapes Go.ChangeAt Go.RowKit Go.Joins Go.Deep

set_option maxRecDepth 100000 in
theorem info_int : (Tryz.prog.info? 3).map (fun i => (i.zero, i.size, i.bytes)) = some (some (.int .i64 0), 1, 8) := by kernel_rfl
/-- an int's cell -/
def encI (n : Int) : List Value := [.int .i64 n]
set_option maxRecDepth 100000 in
theorem encI_len (n : Int) : (encI n).length = 1 := rfl
set_option maxRecDepth 100000 in
theorem encI_one (n : Int) : ∀ u ∈ encI n, u.oneCell' = true := by simp [encI, Value.oneCell']
abbrev RdI (w : World) (B : Nat) (v : Value) (l : List Int) : Prop := Rd encI 1 w B v l
abbrev OwnI (w : World) (base : Nat) (v : Value) (l : List Int) : Prop := Own encI 1 3 w base v l
set_option maxRecDepth 100000 in
theorem OwnI.rdI {w : World} {base : Nat} {v : Value} {l : List Int} (h : OwnI w base v l) : RdI w w.heap.size v l := Own.rd encI_len h
set_option maxRecDepth 100000 in
theorem RdI.at {w : World} {B : Nat} {v : Value} {l : List Int} (h : RdI w B v l) : ∃ A c, v = .slice A l.length c ∧ l.length ≤ c ∧ ∀ i (_ : i < l.length), ∃ b o, A = some ⟨b, o, none⟩ ∧ b < B ∧ w.cell? ⟨b, o + i, none⟩ = some (.int .i64 l[i]) := by
  obtain ⟨A, c, hv, hc, hi⟩ := h
  refine ⟨A, c, hv, hc, fun i hs => ?_⟩
  obtain ⟨b, o, hA, hB, h1⟩ := hi i hs
  have := h1 0 _ rfl
  simp only [Nat.mul_one, Nat.add_zero] at this
  exact ⟨b, o, hA, hB, this⟩
set_option maxRecDepth 100000 in
theorem RdI.one (w : World) (n : Int) : RdI (w.alloc (.cells #[.int .i64 n] 3)) (w.heap.size + 1) (.slice (some ⟨w.heap.size, 0, none⟩) 1 1) [n] := by
  refine ⟨_, 1, rfl, Nat.le_refl _, fun i hi => ⟨w.heap.size, 0, rfl, Nat.lt_succ_self _, fun j u hu => ?_⟩⟩
  obtain rfl : i = 0 := by simp at hi; omega
  match j, hu with
  | 0, hu =>
    simp only [encI, List.getElem_cons_zero, List.getElem?_cons_zero, Option.some.injEq] at hu
    subst hu
    exact World.cell?_alloc_at _ _ _ _ rfl
  | j + 1, hu => simp [encI] at hu
set_option maxRecDepth 100000 in
theorem wpList_addI {ops : Array Oper} {rest : List Oper} {o : Oper} {a : Act} {Q : Exit → Act → World → Prop} {w : World} (hgd : Region.wanted o (yielded ops a.tmps) = true) (s x : Operand)
    (ho : o.op = .call { callee := .builtin .append, args := #[s, x], argTypes := #[51, 51] })
    (base : Nat) (v : Value) (l : List Int) (hs : a.eval s = v) (hown : OwnI w base v l) (B : Nat) (v2 : Value) (p : List Int) (hx : a.eval x = v2) (hp : RdI w B v2 p)
    (hlen : l.length + p.length ≤ 28147497670000) (hbase : base ≤ w.heap.size) (C : Nat) (w0 : World) (hb : Below C w0 w) (hC : C ≤ base)
    (h : ∀ A' c' w', Hid (OwnI w' base (.slice A' (l ++ p).length c') (l ++ p)) → Hid (Below C w0 w') → Hid (base ≤ w'.heap.size) → wpList Tryz.prog ops Q rest (a.put o.dst (.slice A' (l ++ p).length c')) w') : wpList Tryz.prog ops Q (o :: rest) a w := by
  obtain ⟨i0, hi, hz0, hz1, hz2⟩ := info_parts info_int
  refine BigFrame.wpList_want hgd fun K hK => ?_
  refine wp_addAny (enc := encI) (k := 1) 51 3 8 i0 _ Tryz.underlying51 hi hz0 hz1 hz2 rfl (by decide) encI_len encI_one s x ho base v l hs hown B v2 p hx hp (by unfold maxLen; omega) (by omega) hbase fun A' c' w' h1 h2 => ?_
  exact hK _ _ (h A' c' w' (Lib.hid h1) (Lib.hid (hown.grown hb h2 hC (Nat.le_trans hC hbase))) (Lib.hid (Nat.le_trans hbase h2.size)))

/-- what is known of the data of ints -/
def SizedI {H : Type} (d : DataW H) (l : List Int) : Prop := (d = .nil ∧ l = []) ∨ ∃ el sp, d = .slice el sp ∧ el.length = l.length
set_option maxRecDepth 100000 in
/-- a slice of ints that came in reads as a list -/
theorem open_intsI {H : Type} {enc : TypeId × Value → H} {W : World} {base : Nat} {v : Value} {d : DataW H} {p : List MemPlace} (hv : Value.okWide Tryz.prog W .any base 51 v) (h : DataW.Trod enc Tryz.prog W 0 (fun _ => true) true 51 v d p) :
    ∃ l, RdI W W.heap.size v l ∧ SizedI d l ∧ ∀ n ∈ l, -9223372036854775808 ≤ n ∧ n < 9223372036854775808 := by
  obtain ⟨a0, len, cap, rfl⟩ := okWide_slice Tryz.underlying51 hv
  obtain ⟨fuel, hf⟩ := h
  rcases open_ints Tryz.underlying51 Tryz.underlying3 (by kernel_rfl) hf with ⟨hcs, hx⟩ | ⟨a, len', cap', zs, hcs, _, hl, hm, hz, hx, hcell, hwz⟩
  · simp only [Value.cells] at hcs
    have e : Value.slice a0 len cap = .slice none 0 0 := by simpa using hcs
    injection e with e1 e2 e3
    subst e1 e2 e3
    simp only [Prod.mk.injEq] at hx
    exact ⟨[], Rd.nil _ _, .inl ⟨hx.1, rfl⟩, by simp⟩
  · simp only [Value.cells] at hcs
    have e : Value.slice a0 len cap = .slice (some a) len' cap' := by simpa using hcs
    injection e with e1 e2 e3
    subst e1 e2 e3
    simp only [Prod.mk.injEq] at hx
    obtain ⟨rfl, rfl⟩ := hx
    simp only [if_true] at hz
    have hb : ∀ n ∈ zs, -9223372036854775808 ≤ n ∧ n < 9223372036854775808 := fun n hn => by
      have h := hwz n hn
      have h1 : IntKind.i64.min = -9223372036854775808 := rfl
      have h2 : IntKind.i64.max = 9223372036854775807 := rfl
      simp only [Lit.wf, Bool.and_eq_true, decide_eq_true_eq] at h
      omega
    have hlen : (zs.take len).length = len := by simp; omega
    refine ⟨zs.take len, ⟨some a, cap, by rw [hlen], by rw [hlen]; exact hl, fun i hi => ?_⟩, .inr ⟨_, _, rfl, by simp [lits]⟩, fun n hn => hb n (List.mem_of_mem_take hn)⟩
    have hi' : i < len := by omega
    have hc := hcell i (by omega)
    have hsp : a.spot = none := by
      have h0 := hcell 0 (by omega)
      have e0 : a.add 0 = a := rfl
      rw [e0] at h0
      exact World.cell?_spot h0
    rw [addr_add a i hsp] at hc
    have hblk := World.block_lt_of_cell? _ _ hc
    refine ⟨a.block, a.off, by cases a; simp only at hsp; subst hsp; rfl, hblk, fun j u hu => ?_⟩
    match j, hu with
    | 0, hu =>
      simp only [encI, List.getElem?_cons_zero, Option.some.injEq] at hu
      subst hu
      have hlt : i < zs.length := by omega
      rw [Nat.mul_one, Nat.add_zero, hc]
      simp [List.getD, hlt]
    | j + 1, hu => simp [encI] at hu
set_option maxRecDepth 100000 in
theorem SizedI.reach {H : Type} {ts : List TypeId} {ds : List (DataW H)} (h : (DataW.weightsEach Tryz.prog ts ds).all (· ≤ reachBytes) = true) {j : Nat} {d : DataW H} {l : List Int} (hs : SizedI d l) (ht : ts[j]? = some 51) (hd : ds[j]? = some d) : l.length ≤ 17592186043904 := by
  rcases hs with ⟨_, rfl⟩ | ⟨el, sp, rfl, he⟩
  · simp
  · have := sized_slice h ht hd Tryz.underlying51
    rw [show Tryz.prog.bytesOf 3 = 8 by kernel_rfl, show reachBytes = 140737488351232 from rfl] at this
    omega
end Go.Proofs.YtmigninibdecmaaGreat
namespace Go.Proofs.YtmigninibdecmaaGreat
open Go.RowKit

/-- numbers' bytes, one behind the other -/
def encs (l : List Int) : List UInt8 := l.flatMap fun n => enc n.toNat
set_option maxRecDepth 100000 in
theorem encs_append (a b : List Int) : encs (a ++ b) = encs a ++ encs b := by simp [encs]
set_option maxRecDepth 100000 in
theorem encs_len (l : List Int) (h : ∀ n ∈ l, n < 9223372036854775808) : (encs l).length ≤ l.length * 9 := by
  induction l with
  | nil => simp [encs]
  | cons x r ih =>
    have h1 := ih (fun n hn => h n (by simp [hn]))
    have h2 := enc_len9 (n := x.toNat) (by have := h x (by simp); omega)
    have : encs (x :: r) = enc x.toNat ++ encs r := rfl
    rw [this, List.length_append, List.length_cons]
    omega
/-- what Nums answers -/
def numsAns (l : List Int) : List UInt8 × Int := if l.length > 4096 then ([], 6) else if l.any (· < 0) then ([], 5) else (encs l, 0)
end Go.Proofs.YtmigninibdecmaaGreat
namespace Go.Proofs.YtmigninibdecmaaGreat

/-- one bit falls out -/
def step (r : Nat) : Nat := if r % 2 = 1 then (r / 2) ^^^ 2197175160 else r / 2
def steps : Nat → Nat → Nat
  | 0, r => r
  | n + 1, r => steps n (step r)
theorem steps_succ (n r : Nat) : steps (n + 1) r = step (steps n r) := by
  induction n generalizing r with
  | zero => rfl
  | succ n ih => rw [steps, ih, ← steps]
theorem steps_add (m n r : Nat) : steps (m + n) r = steps n (steps m r) := by
  induction m generalizing r with
  | zero => simp [steps]
  | succ m ih => rw [show m + 1 + n = (m + n) + 1 by omega, steps, ih, ← steps]

theorem step_lt {r : Nat} (h : r < 2 ^ 32) : step r < 2 ^ 32 := by
  unfold step
  split
  · exact Nat.xor_lt_two_pow (by omega) (by decide)
  · omega
theorem steps_lt {r : Nat} (h : r < 2 ^ 32) : ∀ n, steps n r < 2 ^ 32
  | 0 => h
  | n + 1 => by rw [steps_succ]; exact step_lt (steps_lt h n)

theorem xor_mod2 (a b : Nat) : (a ^^^ b) % 2 = (a % 2) ^^^ (b % 2) := Nat.xor_mod_two_pow (n := 1)
theorem xor_div2 (a b : Nat) : (a ^^^ b) / 2 = (a / 2) ^^^ (b / 2) := Nat.xor_div_two_pow (n := 1)

theorem xcomm (a b : Nat) : a ^^^ b = b ^^^ a := Nat.xor_comm a b
theorem xleft (a b c : Nat) : a ^^^ (b ^^^ c) = b ^^^ (a ^^^ c) := by rw [← Nat.xor_assoc, Nat.xor_comm a b, Nat.xor_assoc]
theorem xcancel (a b : Nat) : a ^^^ (a ^^^ b) = b := by rw [← Nat.xor_assoc, Nat.xor_self, Nat.zero_xor]

theorem step_xor (a b : Nat) : step (a ^^^ b) = step a ^^^ step b := by
  unfold step
  rw [xor_mod2, xor_div2]
  rcases Nat.mod_two_eq_zero_or_one a with ha | ha <;> rcases Nat.mod_two_eq_zero_or_one b with hb | hb <;> simp only [ha, hb]
  · simp
  · simp [Nat.xor_assoc]
  · simp; simp only [Nat.xor_assoc, xcomm, xleft]
  · simp; simp only [xcomm, xleft]; simp only [Nat.xor_self, Nat.xor_zero]
theorem steps_xor (n a b : Nat) : steps n (a ^^^ b) = steps n a ^^^ steps n b := by
  induction n generalizing a b with
  | zero => rfl
  | succ n ih => rw [steps, step_xor, ih, ← steps, ← steps]
theorem step_zero : step 0 = 0 := rfl
theorem steps_zero (n : Nat) : steps n 0 = 0 := by
  induction n with
  | zero => rfl
  | succ n ih => rw [steps, step_zero, ih]

/-- a step loses nothing: the highest bit behind it tells which bit fell out -/
theorem step_ne {r : Nat} (h : r < 2 ^ 32) (h0 : step r = 0) : r = 0 := by
  unfold step at h0
  split at h0
  · have e : r / 2 = 2197175160 := by
      have := congrArg (fun x => x ^^^ 2197175160) h0
      simp only [Nat.xor_assoc, Nat.xor_self, Nat.xor_zero, Nat.zero_xor] at this
      exact this
    omega
  · omega
theorem steps_ne {r : Nat} (h : r < 2 ^ 32) : ∀ {n}, steps n r = 0 → r = 0
  | 0, h0 => h0
  | n + 1, h0 => steps_ne h (step_ne (steps_lt h n) (by rw [← steps_succ]; exact h0))

theorem step_double (r : Nat) : step (r * 2) = r := by unfold step; split <;> omega
theorem steps_shift : ∀ (n r : Nat), steps n (r * 2 ^ n) = r
  | 0, r => by simp [steps]
  | n + 1, r => by rw [Nat.pow_succ, ← Nat.mul_assoc, steps, step_double, steps_shift]

/-- a byte -/
def take8 (r : Nat) (c : UInt8) : Nat := steps 8 (r ^^^ c.toNat)
/-- bytes -/
def run (r : Nat) (l : List UInt8) : Nat := l.foldl take8 r
theorem run_nil (r : Nat) : run r [] = r := rfl
theorem run_cons (r : Nat) (c : UInt8) (l : List UInt8) : run r (c :: l) = run (take8 r c) l := rfl
theorem run_append (r : Nat) (a b : List UInt8) : run r (a ++ b) = run (run r a) b := List.foldl_append
theorem cbyte_lt (c : UInt8) : c.toNat < 256 := c.toNat_lt
theorem take8_lt {r : Nat} (h : r < 2 ^ 32) (c : UInt8) : take8 r c < 2 ^ 32 := steps_lt (Nat.xor_lt_two_pow h (by have := cbyte_lt c; omega)) 8
theorem run_lt {r : Nat} (h : r < 2 ^ 32) : ∀ l, run r l < 2 ^ 32
  | [] => h
  | c :: l => run_lt (take8_lt h c) l

/-- the sum of bytes behind others -/
def more (s : Nat) (l : List UInt8) : Nat := run (s ^^^ 4294967295) l ^^^ 4294967295
def sum (l : List UInt8) : Nat := more 0 l
theorem more_lt {s : Nat} (h : s < 2 ^ 32) (l : List UInt8) : more s l < 2 ^ 32 := Nat.xor_lt_two_pow (run_lt (Nat.xor_lt_two_pow h (by decide)) l) (by decide)
theorem sum_lt (l : List UInt8) : sum l < 2 ^ 32 := more_lt (by decide) l

/-- a text may be summed in two parts -/
theorem more_sum (a b : List UInt8) : more (sum a) b = sum (a ++ b) := by
  simp only [sum, more, run_append, Nat.xor_assoc, Nat.xor_self, Nat.xor_zero]

/-- the bits of two texts of one length, added -/
def addB (a b : List UInt8) : List UInt8 := List.zipWith (· ^^^ ·) a b
theorem toNat_xor (a b : UInt8) : (a ^^^ b).toNat = a.toNat ^^^ b.toNat := UInt8.toNat_xor a b
theorem take8_xor (r s : Nat) (a b : UInt8) : take8 (r ^^^ s) (a ^^^ b) = take8 r a ^^^ take8 s b := by
  unfold take8
  rw [toNat_xor, ← steps_xor]
  congr 1
  simp only [Nat.xor_assoc, xleft]
theorem run_addB : ∀ (a b : List UInt8) (r s : Nat), a.length = b.length → run (r ^^^ s) (addB a b) = run r a ^^^ run s b
  | [], [], r, s, _ => rfl
  | x :: a, y :: b, r, s, h => by
    rw [addB, List.zipWith_cons_cons, run_cons, take8_xor, ← addB, run_addB a b _ _ (by simpa using h), run_cons, run_cons]
/-- three texts of one length -/
theorem sum_three (a b c : List UInt8) (hb : b.length = a.length) (hc : c.length = a.length) : sum (addB (addB a b) c) = sum a ^^^ sum b ^^^ sum c := by
  have h := run_addB (addB a b) c (4294967295 ^^^ 4294967295) 4294967295 (by simp [addB]; omega)
  rw [run_addB a b _ _ hb.symm] at h
  simp only [sum, more, Nat.zero_xor]
  rw [show (4294967295 ^^^ 4294967295 ^^^ 4294967295 : Nat) = 4294967295 by decide] at h
  rw [h]
  simp only [Nat.xor_assoc, xcomm, xleft, xcancel]
  
/-- bytes of 0 leave the register 0 -/
theorem run_zeros : ∀ n, run 0 (List.replicate n 0) = 0
  | 0 => rfl
  | n + 1 => by rw [List.replicate_succ, run_cons, show take8 0 0 = 0 from rfl, run_zeros n]
/-- a register that is not 0 stays so -/
theorem run_ne : ∀ (n r : Nat), r < 2 ^ 32 → r ≠ 0 → run r (List.replicate n 0) ≠ 0
  | 0, r, _, h => h
  | n + 1, r, hr, h => by
    rw [List.replicate_succ, run_cons]
    refine run_ne n _ (take8_lt hr 0) fun h0 => h ?_
    unfold take8 at h0
    simpa using steps_ne (by simpa using hr) h0

/-- byte k of a number -/
def byteAt (t k : Nat) : UInt8 := UInt8.ofNat (t / 2 ^ (8 * k))
theorem byteAt_toNat (t k : Nat) : (byteAt t k).toNat = t / 2 ^ (8 * k) % 256 := by simp [byteAt]
def four (t : Nat) : List UInt8 := [byteAt t 0, byteAt t 1, byteAt t 2, byteAt t 3]

theorem steps8_into (x d : Nat) : steps 8 x ^^^ d = steps 8 (x ^^^ d * 256) := by
  rw [steps_xor, show d * 256 = d * 2 ^ 8 by rfl, steps_shift]
/-- the four bytes of a number, as a difference -/
theorem run_four {t : Nat} (ht : t < 2 ^ 32) (h : run 0 (four t) = 0) : t = 0 := by
  obtain ⟨a, ha⟩ : ∃ a, a = t % 256 := ⟨_, rfl⟩
  obtain ⟨b, hb⟩ : ∃ b, b = t / 256 % 256 := ⟨_, rfl⟩
  obtain ⟨c, hc⟩ : ∃ c, c = t / 65536 % 256 := ⟨_, rfl⟩
  obtain ⟨d, hd⟩ : ∃ d, d = t / 16777216 % 256 := ⟨_, rfl⟩
  have e0 : (byteAt t 0).toNat = a := by rw [byteAt_toNat, ha]; simp
  have e1 : (byteAt t 1).toNat = b := by rw [byteAt_toNat, hb]
  have e2 : (byteAt t 2).toNat = c := by rw [byteAt_toNat, hc]
  have e3 : (byteAt t 3).toNat = d := by rw [byteAt_toNat, hd]
  have key : steps 8 (steps 8 (steps 8 (steps 8 a ^^^ b) ^^^ c) ^^^ d) = 0 := by
    have h' := h
    simp only [four, run_cons, run_nil, take8, e0, e1, e2, e3, Nat.zero_xor] at h'
    exact h'
  rw [steps8_into a b, ← steps_add, show steps (8 + 8) (a ^^^ b * 256) ^^^ c = steps (8 + 8) (a ^^^ b * 256 ^^^ c * 65536) by
    rw [steps_xor _ (a ^^^ b * 256), show c * 65536 = c * 2 ^ (8 + 8) by rfl, steps_shift], ← steps_add,
    show steps (8 + 8 + 8) (a ^^^ b * 256 ^^^ c * 65536) ^^^ d = steps (8 + 8 + 8) (a ^^^ b * 256 ^^^ c * 65536 ^^^ d * 16777216) by
    rw [steps_xor _ (a ^^^ b * 256 ^^^ c * 65536), show d * 16777216 = d * 2 ^ (8 + 8 + 8) by rfl, steps_shift], ← steps_add] at key
  have hlt : a ^^^ b * 256 ^^^ c * 65536 ^^^ d * 16777216 < 2 ^ 32 :=
    Nat.xor_lt_two_pow (Nat.xor_lt_two_pow (Nat.xor_lt_two_pow (by omega) (by omega)) (by omega)) (by omega)
  have hz := steps_ne hlt key
  have m : ∀ x y : Nat, (x ^^^ y) % 256 = (x % 256) ^^^ (y % 256) := fun x y => Nat.xor_mod_two_pow (n := 8)
  have q : ∀ x y : Nat, (x ^^^ y) / 256 = (x / 256) ^^^ (y / 256) := fun x y => Nat.xor_div_two_pow (n := 8)
  have z0 := congrArg (· % 256) hz
  have z1 := congrArg (· / 256 % 256) hz
  have z2 := congrArg (· / 256 / 256 % 256) hz
  have z3 := congrArg (· / 256 / 256 / 256 % 256) hz
  simp only [m, q] at z0 z1 z2 z3
  rw [show b * 256 % 256 = 0 by omega, show c * 65536 % 256 = 0 by omega, show d * 16777216 % 256 = 0 by omega] at z0
  rw [show a / 256 = 0 by omega, show b * 256 / 256 = b by omega, show c * 65536 / 256 = c * 256 by omega, show d * 16777216 / 256 = d * 65536 by omega, show c * 256 % 256 = 0 by omega, show d * 65536 % 256 = 0 by omega] at z1
  rw [show a / 256 / 256 = 0 by omega, show b * 256 / 256 / 256 = 0 by omega, show c * 65536 / 256 / 256 = c by omega, show d * 16777216 / 256 / 256 = d * 256 by omega, show d * 256 % 256 = 0 by omega] at z2
  rw [show a / 256 / 256 / 256 = 0 by omega, show b * 256 / 256 / 256 / 256 = 0 by omega, show c * 65536 / 256 / 256 / 256 = 0 by omega, show d * 16777216 / 256 / 256 / 256 = d by omega] at z3
  simp at z0 z1 z2 z3
  omega

/-- a text whose four bytes from i on are turned by t -/
theorem burst (p m s : List UInt8) (t : Nat) (hm : m.length = 4) (ht : t < 2 ^ 32) (h0 : t ≠ 0) : sum (p ++ (addB m (four t) ++ s)) ≠ sum (p ++ (m ++ s)) := by
  have hd : p ++ (addB m (four t) ++ s) = addB (p ++ (m ++ s)) (List.replicate p.length 0 ++ (four t ++ List.replicate s.length 0)) := by
    have hz : ∀ l : List UInt8, addB l (List.replicate l.length 0) = l := by
      intro l
      induction l with
      | nil => rfl
      | cons x l ih => rw [List.length_cons, List.replicate_succ, addB, List.zipWith_cons_cons, ← addB, ih]; simp
    show _ = List.zipWith _ _ _
    rw [List.zipWith_append (by simp), List.zipWith_append (by simp [hm, four])]
    show _ = addB _ _ ++ (addB _ _ ++ addB _ _)
    rw [hz, hz]
  have hlen : (p ++ (m ++ s)).length = (List.replicate p.length (0 : UInt8) ++ (four t ++ List.replicate s.length 0)).length := by simp [hm, four]; omega
  rw [hd]
  intro h
  have h1 := run_addB (p ++ (m ++ s)) _ 4294967295 0 hlen
  rw [Nat.xor_zero] at h1
  simp only [sum, more, Nat.zero_xor] at h
  rw [h1] at h
  have h2 : run 0 (List.replicate p.length 0 ++ (four t ++ List.replicate s.length 0)) = 0 := by
    have := congrArg (fun x => run 4294967295 (p ++ (m ++ s)) ^^^ (x ^^^ 4294967295)) h
    simp only [Nat.xor_assoc, Nat.xor_self, Nat.xor_zero, xcancel] at this
    exact this
  rw [run_append, run_zeros, run_append] at h2
  refine run_ne s.length (run 0 (four t)) (run_lt (by decide) _) (fun h3 => h0 (run_four ht h3)) h2
end Go.Proofs.YtmigninibdecmaaGreat
namespace Go.Proofs.YtmigninibdecmaaGreat
theorem xor_nat (k : IntKind) (j : Nat) (hj : j ≤ k.bits) (hk : ∀ n : Int, 0 ≤ n → n < 2 ^ j → k.wrap n = n) (a b : Nat) (ha : a < 2 ^ j) (hb : b < 2 ^ j) : bits .xor k a b = ((a ^^^ b : Nat) : Int) := by
  have hp : 2 ^ j ≤ 2 ^ k.bits := Nat.pow_le_pow_right (by decide) hj
  have ha' : a % 2 ^ k.bits = a := Nat.mod_eq_of_lt (Nat.lt_of_lt_of_le ha hp)
  have hb' : b % 2 ^ k.bits = b := Nat.mod_eq_of_lt (Nat.lt_of_lt_of_le hb hp)
  simp only [bits, BitVec.ofInt_natCast, BitVec.toNat_xor, BitVec.toNat_ofNat, ha', hb']
  exact hk _ (Int.natCast_nonneg _) (by exact_mod_cast Nat.xor_lt_two_pow ha hb)
theorem xor32 {a b : Nat} (ha : a < 2 ^ 32) (hb : b < 2 ^ 32) : bits .xor .u32 (a : Int) (b : Int) = ((a ^^^ b : Nat) : Int) := xor_nat .u32 32 (by decide) wraps_u32 a b ha hb
theorem xor8 {a b : Nat} (ha : a < 2 ^ 8) (hb : b < 2 ^ 8) : bits .xor .u8 (a : Int) (b : Int) = ((a ^^^ b : Nat) : Int) := xor_nat .u8 8 (by decide) wraps_u8 a b ha hb
end Go.Proofs.YtmigninibdecmaaGreat
namespace Go.Proofs.YtmigninibdecmaaGreat
open Go.RowKit

set_option maxRecDepth 100000 in
theorem and1 {a : Nat} (ha : a < 2 ^ 32) : bits .and .u32 (a : Int) 1 = ((a % 2 : Nat) : Int) := by
  have := bits_mask .u32 32 (by decide) wraps_u32 1 (by decide) (a : Int) (by omega) (by exact_mod_cast ha)
  simpa using this

set_option maxHeartbeats 400000 in
set_option maxRecDepth 100000 in
theorem shift_any (r : Nat) (hr : r < 2 ^ 32) (w : World) : Calls Tryz.prog 141 #[.int .u32 r] w fun e w' => e = .returned (.int .u32 (steps 8 r : Nat)) ∧ w' = w := by
  go_enter Tryz.func141, Tryz.ntmps141
  go_wp2
  go_loop [0, 4] (fun rv i => ∃ j q : Nat, j ≤ 8 ∧ i = .int .i64 j ∧ rv = .int .u32 q ∧ q < 2 ^ 32 ∧ steps 8 r = steps (8 - j) q) (fun _ i => 8 - (intOf i).toNat)
  case atStart => exact ⟨0, r, Nat.zero_le _, rfl, rfl, hr, rfl⟩
  case round =>
    obtain ⟨j, q, hj, rfl, rfl, hq, he⟩ := hrel
    have HE := Lib.hid he; clear he
    by_cases hlt : j < 8
    · have h1 := and1 hq
      have h3 : bits .xor .u32 ((q : Int) / 2) 2197175160 = ((q / 2 ^^^ 2197175160 : Nat) : Int) := by
        have := xor32 (a := q / 2) (b := 2197175160) (by omega) (by decide)
        simpa using this
      rcases Nat.mod_two_eq_zero_or_one q with hm | hm
      all_goals
        rw [hm] at h1
        go_wp2_with fail
        go_round
        case rel => exact ⟨j + 1, step q, by omega, by go_num, by unfold step; rw [hm]; simp, step_lt hq, by rw [HE.out, show 8 - j = (8 - (j + 1)) + 1 by omega, steps]⟩
        case measure => simp [intOf]; omega
    · go_wp2_with fail
      go_ret
      exact ⟨by rw [HE.out, show 8 - j = 0 by omega]; rfl, rfl⟩

set_option maxRecDepth 100000 in
theorem byte32 (c : UInt8) : IntKind.u32.wrap (c.toNat : Int) = (c.toNat : Int) := wraps_u32 _ (by omega) (by have := byte_lt c; omega)
set_option maxRecDepth 100000 in
theorem run_take_succ (r : Nat) (l : List UInt8) (j : Nat) (h : j < l.length) : run r (l.take (j + 1)) = take8 (run r (l.take j)) l[j] := by
  rw [List.take_add_one, List.getElem?_eq_getElem h, run_append]; rfl

set_option maxHeartbeats 400000 in
set_option maxRecDepth 100000 in
theorem more_any (s : Nat) (hs : s < 2 ^ 32) (l : List UInt8) (v : Value) (w : World) (B : Nat) (hv : RdB w B v l) (hl : l.length < 4611686018427387904) : Calls Tryz.prog 130 #[.int .u32 s, v] w fun e w' => e = .returned (.int .u32 (more s l : Nat)) ∧ w' = w := by
  obtain ⟨A, c, rfl, hc, hi⟩ := hv.at
  have h0 : bits .xor .u32 IntKind.u32.max (s : Int) = ((4294967295 ^^^ s : Nat) : Int) := xor32 (a := 4294967295) (by decide) hs
  have hr0 : 4294967295 ^^^ s < 2 ^ 32 := Nat.xor_lt_two_pow (by decide) hs
  have HI := Lib.hid hi; clear hi
  have HV := Lib.hid hv; clear hv
  go_enter Tryz.func130, Tryz.ntmps130
  go_wp2
  go_loop [5, 12] (fun rv i => ∃ j q : Nat, j ≤ l.length ∧ i = .int .i64 j ∧ rv = .int .u32 q ∧ q < 2 ^ 32 ∧ q = run (4294967295 ^^^ s) (l.take j)) (fun _ i => l.length - (intOf i).toNat)
  case atStart => exact ⟨0, _, Nat.zero_le _, rfl, rfl, hr0, rfl⟩
  case round =>
    obtain ⟨j, q, hj, rfl, rfl, hq, he⟩ := hrel
    have HE := Lib.hid he; clear he
    by_cases hlt : j < l.length
    · obtain ⟨b, o, rfl, hbB, h1⟩ := HI.out j hlt
      have h2 := byte32 l[j]
      have h3 : bits .xor .u32 (q : Int) (l[j].toNat : Int) = ((q ^^^ l[j].toNat : Nat) : Int) := xor32 hq (by have := byte_lt l[j]; omega)
      have h4 : q ^^^ l[j].toNat < 2 ^ 32 := Nat.xor_lt_two_pow hq (by have := byte_lt l[j]; omega)
      go_wp2_with fail
      refine (shift_any _ h4 _).mono ?_
      rintro e w1 ⟨rfl, rfl⟩
      go_wp2_with fail
      go_round
      case rel => exact ⟨j + 1, steps 8 (q ^^^ l[j].toNat), by omega, by go_num, rfl, steps_lt h4 8, by rw [run_take_succ _ _ _ hlt, ← HE.out]; rfl⟩
      case measure => simp [intOf]; omega
    · have h5 : bits .xor .u32 IntKind.u32.max (q : Int) = ((4294967295 ^^^ q : Nat) : Int) := xor32 (a := 4294967295) (by decide) hq
      go_wp2_with fail
      go_ret
      exact ⟨by rw [HE.out, List.take_of_length_le (by omega), more, xcomm s, xcomm (run _ _)]; rfl, rfl⟩

set_option maxHeartbeats 400000 in
set_option maxRecDepth 100000 in
theorem sum_any (l : List UInt8) (v : Value) (w : World) (B : Nat) (hv : RdB w B v l) (hl : l.length < 4611686018427387904) : Calls Tryz.prog 106 #[v] w fun e w' => e = .returned (.int .u32 (sum l : Nat)) ∧ w' = w := by
  have HM := Lib.hid (more_any 0 (by decide) l v w B hv hl)
  obtain ⟨A, c, rfl, hc, hi⟩ := hv
  clear hi
  go_enter Tryz.func106, Tryz.ntmps106
  go_wp2_with fail
  refine HM.out.mono ?_
  rintro e w1 ⟨rfl, rfl⟩
  go_wp2_with fail
  go_ret
  exact ⟨rfl, rfl⟩

end Go.Proofs.YtmigninibdecmaaGreat
