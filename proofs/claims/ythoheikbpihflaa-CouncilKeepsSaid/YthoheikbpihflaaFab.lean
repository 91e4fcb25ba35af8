/- Numbers as bytes of seven bits each, as plain lists: laid, read back, read from any bytes. What the reference's Num answers. What the reference's Text answers. What the reference's Put and Num answer. A text's bytes appended to a slice of the call's own. What the reference's PutText answers. Slices of ints: read, owned, appended to; those that came in. What the reference's Nums, Split and Ints answer. The register as plain arithmetic: one step, a byte, a text; that it adds up bit by bit, and that it loses nothing. The bits of numbers as plain arithmetic. What the sums answer: the program's and the reference's, for every text and every world. What Seal and Open answer, the program's and the reference's. What Open answers, the program's. -/
import Derived.Test.YthoheikbpihflaaFaa
import Derived.Test.YthoheikbpihflaaRows
import Derived.Lib.AppendStr
import Derived.Laws.BitsLemmas
import Derived.Lib.EndianBits
import Derived.WalkKit
import Derived.WalkSpells
import Derived.WalkLawsBesides
import Derived.Lib.Hide
import Derived.Sort.Walk0
namespace Go.Proofs.Ythoheikbpihflaa

theorem u8_ofNat {x : Nat} (h : x < 256) : (UInt8.ofNat x).toNat = x := by simp; omega

/-- a number's bytes -/
def enc (n : Nat) : List UInt8 := if n > 127 then UInt8.ofNat (128 + n % 128) :: enc (n / 128) else [UInt8.ofNat n]
decreasing_by omega
theorem enc_big {n : Nat} (h : n > 127) : enc n = UInt8.ofNat (128 + n % 128) :: enc (n / 128) := by rw [enc, if_pos h]
theorem enc_small {n : Nat} (h : n ≤ 127) : enc n = [UInt8.ofNat n] := by rw [enc, if_neg (by omega)]
theorem enc_ne (n : Nat) : enc n ≠ [] := by
  rw [enc]; split <;> simp
theorem enc_pos (n : Nat) : 1 ≤ (enc n).length := by
  have := enc_ne n
  cases h : enc n with
  | nil => exact absurd h this
  | cons => simp
/-- how many bytes a number has -/
theorem enc_len : ∀ (k n : Nat), n < 128 ^ (k + 1) → (enc n).length ≤ k + 1
  | 0, n, h => by rw [enc_small (by omega)]; simp
  | k + 1, n, h => by
    by_cases hn : n > 127
    · rw [enc_big hn, List.length_cons]
      have := enc_len k (n / 128) (by rw [Nat.pow_succ] at h; omega)
      omega
    · rw [enc_small (by omega)]; simp
theorem enc_len9 {n : Nat} (h : n < 9223372036854775808) : (enc n).length ≤ 9 := enc_len 8 n (by omega)
theorem enc_mono : ∀ (n m : Nat), n ≤ m → (enc n).length ≤ (enc m).length := by
  intro n
  induction n using Nat.strongRecOn with
  | ind n ih =>
    intro m hm
    by_cases hn : n > 127
    · rw [enc_big hn, enc_big (n := m) (by omega), List.length_cons, List.length_cons]
      have := ih (n / 128) (by omega) (m / 128) (by omega)
      omega
    · rw [enc_small (by omega)]
      exact enc_pos m

/-- what the reading of a number answers, behind i bytes of it: the number, how many bytes, the error -/
def numGo : Nat → Nat → Nat → List UInt8 → Nat × Nat × Nat
  | i, _, _, [] => if i ≥ 9 then (0, 0, 2) else (0, 0, 3)
  | i, n, t, c :: r => if i ≥ 9 then (0, 0, 2) else
    if c.toNat < 128 then (if c.toNat = 0 ∧ i > 0 then (0, 0, 2) else (n + c.toNat % 128 * t, i + 1, 0)) else numGo (i + 1) (n + c.toNat % 128 * t) (t * 128) r
def numAns (l : List UInt8) : Nat × Nat × Nat := numGo 0 0 1 l

/-- a number that was laid comes back, whatever stands behind -/
theorem numGo_enc (s : List UInt8) : ∀ (n i a t : Nat), i + (enc n).length ≤ 9 → (i > 0 → n > 0) → numGo i a t (enc n ++ s) = (a + n * t, i + (enc n).length, 0) := by
  intro n
  induction n using Nat.strongRecOn with
  | ind n ih =>
    intro i a t hi h0
    by_cases hn : n > 127
    · rw [enc_big hn, List.length_cons] at hi
      rw [enc_big hn, List.cons_append, numGo, if_neg (by omega), u8_ofNat (by omega), if_neg (by omega), ih (n / 128) (by omega) (i + 1) _ _ (by omega) (by omega), List.length_cons]
      rw [show (128 + n % 128) % 128 = n % 128 by omega]
      have e : n * t = n % 128 * t + n / 128 * (t * 128) := by
        conv => lhs; rw [← Nat.mod_add_div n 128]
        rw [Nat.add_mul]
        congr 1
        rw [Nat.mul_comm 128, Nat.mul_assoc, Nat.mul_comm 128 t]
      rw [e]
      simp only [Prod.mk.injEq, and_true]
      omega
    · rw [enc_small (by omega)] at hi ⊢
      simp only [List.length_singleton] at hi ⊢
      rw [List.singleton_append, numGo, if_neg (by omega), u8_ofNat (by omega), if_pos (by omega), if_neg (by omega), show n % 128 = n by omega]
theorem numAns_enc {n : Nat} (h : n < 9223372036854775808) (s : List UInt8) : numAns (enc n ++ s) = (n, (enc n).length, 0) := by
  have := numGo_enc s n 0 0 1 (by have := enc_len9 h; omega) (by omega)
  simpa [numAns] using this
/-- cut off, it is told to be -/
theorem numGo_cut : ∀ (n i a t k : Nat), i + (enc n).length ≤ 9 → k < (enc n).length → numGo i a t ((enc n).take k) = (0, 0, 3) := by
  intro n
  induction n using Nat.strongRecOn with
  | ind n ih =>
    intro i a t k hi hk
    match k with
    | 0 => rw [List.take_zero, numGo, if_neg (by have := enc_pos n; omega)]
    | k + 1 =>
      by_cases hn : n > 127
      · rw [enc_big hn, List.length_cons] at hi hk
        rw [enc_big hn, List.take_succ_cons, numGo, if_neg (by omega), u8_ofNat (by omega), if_neg (by omega)]
        exact ih (n / 128) (by omega) _ _ _ _ (by omega) (by omega)
      · rw [enc_small (by omega)] at hk
        simp at hk
theorem numAns_cut {n k : Nat} (h : n < 9223372036854775808) (hk : k < (enc n).length) : numAns ((enc n).take k) = (0, 0, 3) :=
  numGo_cut n 0 0 1 k (by have := enc_len9 h; omega) hk

/-- bytes that are read as a number are that number's bytes -/
theorem numGo_once : ∀ (l : List UInt8) (i a t m u : Nat), numGo i a t l = (m, u, 0) → ∃ n, m = a + n * t ∧ u = i + (enc n).length ∧ u ≤ 9 ∧ (i > 0 → n > 0) ∧ ∃ s, l = enc n ++ s
  | [], i, a, t, m, u, h => by
    rw [numGo] at h
    split at h <;> simp at h
  | c :: r, i, a, t, m, u, h => by
    have hc : c.toNat < 256 := c.toNat_lt
    rw [numGo] at h
    by_cases hi : i ≥ 9
    · rw [if_pos hi] at h; simp at h
    · rw [if_neg hi] at h
      by_cases hs : c.toNat < 128
      · rw [if_pos hs] at h
        by_cases hz : c.toNat = 0 ∧ i > 0
        · rw [if_pos hz] at h; simp at h
        · rw [if_neg hz] at h
          simp only [Prod.mk.injEq, and_true] at h
          refine ⟨c.toNat, by rw [← h.1]; congr 2; omega, ?_, by omega, by omega, r, ?_⟩
          · rw [enc_small (by omega)]; simp; omega
          · rw [enc_small (by omega)]; simp
      · rw [if_neg hs] at h
        obtain ⟨n, h1, h2, h3, h4, s, rfl⟩ := numGo_once r _ _ _ _ _ h
        have hn := h4 (by omega)
        have hb : c.toNat % 128 + 128 * n > 127 := by omega
        refine ⟨c.toNat % 128 + 128 * n, ?_, ?_, h3, by omega, s, ?_⟩
        · rw [h1, Nat.add_mul, Nat.add_assoc]
          congr 2
          rw [Nat.mul_comm t, ← Nat.mul_assoc, Nat.mul_comm n]
        · rw [h2, enc_big hb, List.length_cons, show (c.toNat % 128 + 128 * n) / 128 = n by omega]
          omega
        · rw [enc_big hb, show (c.toNat % 128 + 128 * n) / 128 = n by omega, show 128 + (c.toNat % 128 + 128 * n) % 128 = c.toNat by omega]
          simp
theorem numAns_once {l : List UInt8} {m u : Nat} (h : numAns l = (m, u, 0)) : u = (enc m).length ∧ u ≤ 9 ∧ 1 ≤ u ∧ ∃ s, l = enc m ++ s := by
  obtain ⟨n, h1, h2, h3, _, s, rfl⟩ := numGo_once l _ _ _ _ _ h
  simp only [Nat.zero_add, Nat.mul_one] at h1 h2
  subst h1
  have := enc_pos m
  exact ⟨h2, h3, by omega, s, rfl⟩
/-- what is answered beside an error -/
theorem numGo_err : ∀ (l : List UInt8) (i a t : Nat), (numGo i a t l).2.2 = 0 ∨ numGo i a t l = (0, 0, 2) ∨ numGo i a t l = (0, 0, 3)
  | [], i, a, t => by rw [numGo]; split <;> simp
  | c :: r, i, a, t => by
    rw [numGo]
    split
    · simp
    · split
      · split <;> simp
      · exact numGo_err r _ _ _
theorem numAns_err (l : List UInt8) : (numAns l).2.2 = 0 ∨ numAns l = (0, 0, 2) ∨ numAns l = (0, 0, 3) := numGo_err l 0 0 1
/-- the number fits -/
theorem enc_lt {n : Nat} (h : (enc n).length ≤ 9) : n < 9223372036854775808 := by
  have key : ∀ (k n : Nat), (enc n).length ≤ k + 1 → n < 128 ^ (k + 1) := by
    intro k
    induction k with
    | zero =>
      intro n h
      by_cases hn : n > 127
      · rw [enc_big hn, List.length_cons] at h
        have := enc_pos (n / 128); omega
      · omega
    | succ k ih =>
      intro n h
      by_cases hn : n > 127
      · rw [enc_big hn, List.length_cons] at h
        have := ih (n / 128) (by omega)
        rw [Nat.pow_succ]; omega
      · have : 1 ≤ 128 ^ (k + 1) := Nat.pow_pos (by decide)
        rw [Nat.pow_succ]; omega
  exact key 8 n (by omega)
theorem enc_inj {n m : Nat} (hn : n < 9223372036854775808) (h : enc n = enc m) : n = m := by
  have h9 := enc_len9 hn
  have hm := enc_lt (n := m) (by rw [← h]; exact h9)
  have a := numAns_enc hn []
  have b := numAns_enc hm []
  rw [h, b] at a
  simpa using (congrArg (·.1) a).symm
end Go.Proofs.Ythoheikbpihflaa
namespace Go.Proofs.Ythoheikbpihflaa
open Go.RowKit

/-- three results: a number, how many bytes, the error -/
def numVal (x : Nat × Nat × Nat) : Value := .tuple #[.int .i64 (x.1 : Int), .int .i64 (x.2.1 : Int), .int .i64 (x.2.2 : Int)]

end Go.Proofs.Ythoheikbpihflaa
namespace Go.Proofs.Ythoheikbpihflaa
open Go.RowKit

/-- what Text answers: the text, how many bytes, the error -/
def textAns (l : List UInt8) : List UInt8 × Nat × Nat :=
  if (numAns l).2.2 ≠ 0 then ([], 0, (numAns l).2.2) else if (numAns l).1 > 65536 then ([], 0, 6)
  else if l.length - (numAns l).2.1 < (numAns l).1 then ([], 0, 3) else ((l.drop (numAns l).2.1).take (numAns l).1, (numAns l).2.1 + (numAns l).1, 0)
def textVal (x : List UInt8 × Nat × Nat) : Value := .tuple #[.string (strB x.1), .int .i64 (x.2.1 : Int), .int .i64 (x.2.2 : Int)]

set_option maxRecDepth 100000 in
/-- a window of bytes -/
theorem RdB.window {w : World} {B b o c : Nat} {l : List UInt8} (h : RdB w B (.slice (some ⟨b, o, none⟩) l.length c) l) (lo n : Nat) (hn : lo + n ≤ l.length) (c' : Nat) (hc : n ≤ c') (A' : Option Addr) (hA : 0 < n → A' = some ⟨b, o + lo, none⟩) :
    RdB w B (.slice A' n c') ((l.drop lo).take n) := by
  obtain ⟨A, c0, hv, hcl, hi⟩ := h
  injection hv with e1 e2 e3
  subst e1 e3
  have hlen : ((l.drop lo).take n).length = n := by simp; omega
  refine ⟨A', c', by rw [hlen], by rw [hlen]; exact hc, fun i hi' => ?_⟩
  have hin : i < n := by omega
  obtain ⟨b', o', hA', hB, h1⟩ := hi (lo + i) (by omega)
  simp only [Option.some.injEq, Addr.mk.injEq, and_true] at hA'
  obtain ⟨rfl, rfl⟩ := hA'
  refine ⟨b, o + lo, hA (by omega), hB, fun j u hu => ?_⟩
  have := h1 j u (by simpa using hu)
  rw [← this]
  congr 2
  omega

end Go.Proofs.Ythoheikbpihflaa
namespace Go.Proofs.Ythoheikbpihflaa
open Go.RowKit

end Go.Proofs.Ythoheikbpihflaa
namespace Go.Proofs.Ythoheikbpihflaa
open Go.RowKit

set_option maxRecDepth 100000 in
theorem strCells_bytes (s : ByteArray) : Lib.strCells s = cellsB s.data.toList := rfl
set_option maxRecDepth 100000 in
theorem data_len (s : ByteArray) : s.data.toList.length = s.size := by simp

set_option maxRecDepth 100000 in
theorem run_append_str (w : World) (base : Nat) (ty : TypeId) (v : Value) (l : List UInt8) (ho : OwnB w base v l) (s : ByteArray) (hlen : l.length + s.size ≤ 225179981368000) (hs : s.size ≤ 140737488355328) (hb : base ≤ w.heap.size) :
    ∃ v' w', (Builtin.append_ #[56, 9] ty #[v, .string s]).run Try.prog w = .ok v' w' ∧ OwnB w' base v' (l ++ s.data.toList) ∧ w.grownBy w' v.ownBlock := by
  obtain ⟨i0, hi, hz0, hz1, hz2⟩ := info_parts info_u8
  have small : l.length + s.size ≤ 140737488355328 → ∃ v' w', (Builtin.append_ #[56, 9] ty #[v, .string s]).run Try.prog w = .ok v' w' ∧ OwnB w' base v' (l ++ s.data.toList) ∧ w.grownBy w' v.ownBlock := fun hle => by
    obtain ⟨v', w', h1, h2, h3, _⟩ := Lib.run_append_own_string (P := Try.prog) w base 56 9 ty 5 i0 Try.underlying56 Try.underlying9 hi hz0 hz1 hz2 v l.length _ ho s (by unfold maxLen; omega) hle hb
    refine ⟨v', w', h1, ?_, h3⟩
    show w'.ownsRow base _ 1 v' _ _
    rw [List.length_append, data_len, flat_cellsB, cellsB_append, ← strCells_bytes, ← flat_cellsB]
    exact h2
  by_cases hle : l.length + s.size ≤ 140737488355328
  · exact small hle
  rcases ho.form with ⟨_, h0⟩ | ⟨g, cap, rfl, hbg, hglt, hnc⟩
  · rw [h0] at hle; simp at hle; omega
  have hfl : flatG byteEnc (l ++ s.data.toList) = cellsB l ++ Lib.strCells s := by rw [flat_cellsB, cellsB_append, strCells_bytes]
  have hll : (l ++ s.data.toList).length = l.length + s.size := by rw [List.length_append, data_len]
  have hcl := cellsB_len l
  have hsl := Lib.strCells_length s
  rcases ho.2 with ⟨h', _⟩ | ⟨g', cap', cur, h', _, hg, _, hcm, hcs, htake⟩
  · simp at h'
  simp only [Value.slice.injEq, Option.some.injEq, Addr.mk.injEq, and_true, true_and] at h'
  obtain ⟨rfl, rfl⟩ := h'
  rw [flat_cellsB, Nat.mul_one] at htake
  rw [Nat.mul_one] at hcs
  by_cases hroom : l.length + s.size ≤ cap
  · have hr := Lib.run_append_room_string (P := Try.prog) w 56 9 ty 5 i0 Try.underlying56 Try.underlying9 hi hz1 g l.length cap cur hg s hroom (by omega)
    refine ⟨_, _, hr, ⟨by rw [hfl, List.length_append, hcl, hsl, hll, Nat.mul_one], .inr ⟨g, cap, _, by rw [hll], hbg, setRow_heap w g cur _ _ _ hg, by rw [hll]; exact hroom, hcm, ?_, ?_⟩⟩, ⟨rfl, rfl, rfl, by simp, fun k _ hk => setRow_other w g k _ (fun e => hk (by simp [Value.ownBlock, e]))⟩⟩
    · simp only [List.size_toArray, List.length_append, List.length_take, List.length_drop, Array.length_toList, hsl]
      omega
    · rw [htake, hfl, hll, Nat.mul_one]
      exact List.take_left' (by rw [List.length_append, hcl, hsl])
  · have hold : ∀ j u, (cellsB l)[j]? = some u → w.cell? ((⟨g, 0, none⟩ : Addr).add j) = some u := by
      have := World.ownsRow.cells ho (g := g) rfl
      rwa [flat_cellsB] at this
    have hr := Lib.run_append_grow_string (P := Try.prog) w 56 9 ty 5 i0 _ Try.underlying56 Try.underlying9 hi hz0 ⟨g, 0, none⟩ l.length cap (cellsB l) (by rw [hz1, hcl, Nat.mul_one]) hold s (by omega) (by omega) (growslice_fits_wide (by omega) (by rw [hz2]; omega))
    have hge := grownCap_ge w (l.length + s.size) cap 5
    have hgm := grownCap_le_maxLen w (l.length + s.size) cap 5 (by unfold maxLen; omega)
    refine ⟨_, _, hr, ⟨by rw [hfl, List.length_append, hcl, hsl, hll, Nat.mul_one], .inr ⟨w.heap.size, _, _, by rw [hll], hb, heap_alloc_new w.drew _, by rw [hll]; exact hge, hgm, ?_, ?_⟩⟩, ⟨rfl, rfl, rfl, by simp, fun k hk _ => heap_alloc_old w.drew _ hk⟩⟩
    · have hz : (Value.int IntKind.u8 0).cells.size = 1 := rfl
      simp only [Array.size_append, List.size_toArray, size_zeroCells, hz, hcl, hsl]
      omega
    · rw [hfl, hll, Nat.mul_one]
      simp only [Array.toList_append]
      exact List.take_left' (by rw [List.length_append, hcl, hsl])

set_option maxRecDepth 100000 in
theorem wpList_addStr {ops : Array Oper} {rest : List Oper} {o : Oper} {a : Act} {Q : Exit → Act → World → Prop} {w : World} (hw : Region.wanted o (yielded ops a.tmps) = true) (sl x : Operand)
    (ho : o.op = .call { callee := .builtin .append, args := #[sl, x], argTypes := #[56, 9] })
    (base : Nat) (v : Value) (l : List UInt8) (hs : a.eval sl = v) (hown : OwnB w base v l) (s : ByteArray) (hx : a.eval x = .string s)
    (hlen : l.length + s.size ≤ 225179981368000) (hs47 : s.size ≤ 140737488355328) (hbase : base ≤ w.heap.size) (C : Nat) (w0 : World) (hb : Below C w0 w) (hC : C ≤ base)
    (h : ∀ A' c' w', Hid (OwnB w' base (.slice A' (l ++ s.data.toList).length c') (l ++ s.data.toList)) → Hid (Below C w0 w') → Hid (base ≤ w'.heap.size) → wpList Try.prog ops Q rest (a.put o.dst (.slice A' (l ++ s.data.toList).length c')) w') : wpList Try.prog ops Q (o :: rest) a w := by
  refine BigFrame.wpList_want hw fun K hK => ?_
  obtain ⟨v', w', hr, h2, h3⟩ := run_append_str w base o.type v l hown s hlen hs47 hbase
  have hv : ∃ A' c', v' = .slice A' (l ++ s.data.toList).length c' := by
    rcases h2.form with ⟨hv, h0⟩ | ⟨g, cap, hv, _⟩
    · exact ⟨none, 0, by rw [h0]; exact hv⟩
    · exact ⟨_, _, hv⟩
  obtain ⟨A', c', rfl⟩ := hv
  unfold Oper.wp execOp
  simp only [ho, resolve, invoke, builtin, Sem.run_bind, Sem.run_pure, Result.andThen_ok, List.map_toArray, List.map_cons, List.map_nil, hs, hx, hr]
  exact hK _ _ (h A' c' w' (Lib.hid h2) (Lib.hid (hown.grown hb h3 hC (Nat.le_trans hC hbase))) (Lib.hid (Nat.le_trans hbase h3.size)))
end Go.Proofs.Ythoheikbpihflaa
namespace Go.Proofs.Ythoheikbpihflaa
open Go.RowKit

/-- a text's bytes -/
def encT (s : List UInt8) : List UInt8 := enc s.length ++ s

/-- what PutNum and PutText answer: the bytes, and the error -/
def putAns (l : List UInt8) (n : Int) : List UInt8 × Int := if n < 0 then ([], 5) else (l ++ enc n.toNat, 0)
def putTAns (l : List UInt8) (s : ByteArray) : List UInt8 × Int := if s.size > 65536 then ([], 6) else (l ++ encT s.data.toList, 0)

end Go.Proofs.Ythoheikbpihflaa
namespace Go.Proofs.Ythoheikbpihflaa
open Go.ChangeShapes Go.WideShapes Go.ChangeAt Go.RowKit Go.Joins Go.Deep

set_option maxRecDepth 100000 in
theorem info_int : (Try.prog.info? 3).map (fun i => (i.zero, i.size, i.bytes)) = some (some (.int .i64 0), 1, 8) := by kernel_rfl
/-- an int's cell -/
def encI (n : Int) : List Value := [.int .i64 n]
set_option maxRecDepth 100000 in
theorem encI_len (n : Int) : (encI n).length = 1 := rfl
set_option maxRecDepth 100000 in
theorem encI_one (n : Int) : ∀ u ∈ encI n, u.oneCell' = true := by simp [encI, Value.oneCell']
abbrev RdI (w : World) (B : Nat) (v : Value) (l : List Int) : Prop := Rd encI 1 w B v l
abbrev OwnI (w : World) (base : Nat) (v : Value) (l : List Int) : Prop := Own encI 1 3 w base v l
set_option maxRecDepth 100000 in
theorem OwnI.rdI {w : World} {base : Nat} {v : Value} {l : List Int} (h : OwnI w base v l) : RdI w w.heap.size v l := Own.rd encI_len h
set_option maxRecDepth 100000 in
theorem RdI.at {w : World} {B : Nat} {v : Value} {l : List Int} (h : RdI w B v l) : ∃ A c, v = .slice A l.length c ∧ l.length ≤ c ∧ ∀ i (_ : i < l.length), ∃ b o, A = some ⟨b, o, none⟩ ∧ b < B ∧ w.cell? ⟨b, o + i, none⟩ = some (.int .i64 l[i]) := by
  obtain ⟨A, c, hv, hc, hi⟩ := h
  refine ⟨A, c, hv, hc, fun i hs => ?_⟩
  obtain ⟨b, o, hA, hB, h1⟩ := hi i hs
  have := h1 0 _ rfl
  simp only [Nat.mul_one, Nat.add_zero] at this
  exact ⟨b, o, hA, hB, this⟩
set_option maxRecDepth 100000 in
theorem RdI.one (w : World) (n : Int) : RdI (w.alloc (.cells #[.int .i64 n] 3)) (w.heap.size + 1) (.slice (some ⟨w.heap.size, 0, none⟩) 1 1) [n] := by
  refine ⟨_, 1, rfl, Nat.le_refl _, fun i hi => ⟨w.heap.size, 0, rfl, Nat.lt_succ_self _, fun j u hu => ?_⟩⟩
  obtain rfl : i = 0 := by simp at hi; omega
  match j, hu with
  | 0, hu =>
    simp only [encI, List.getElem_cons_zero, List.getElem?_cons_zero, Option.some.injEq] at hu
    subst hu
    exact World.cell?_alloc_at _ _ _ _ rfl
  | j + 1, hu => simp [encI] at hu
set_option maxRecDepth 100000 in
theorem wpList_addI {ops : Array Oper} {rest : List Oper} {o : Oper} {a : Act} {Q : Exit → Act → World → Prop} {w : World} (hgd : Region.wanted o (yielded ops a.tmps) = true) (s x : Operand)
    (ho : o.op = .call { callee := .builtin .append, args := #[s, x], argTypes := #[33, 33] })
    (base : Nat) (v : Value) (l : List Int) (hs : a.eval s = v) (hown : OwnI w base v l) (B : Nat) (v2 : Value) (p : List Int) (hx : a.eval x = v2) (hp : RdI w B v2 p)
    (hlen : l.length + p.length ≤ 28147497670000) (hbase : base ≤ w.heap.size) (C : Nat) (w0 : World) (hb : Below C w0 w) (hC : C ≤ base)
    (h : ∀ A' c' w', Hid (OwnI w' base (.slice A' (l ++ p).length c') (l ++ p)) → Hid (Below C w0 w') → Hid (base ≤ w'.heap.size) → wpList Try.prog ops Q rest (a.put o.dst (.slice A' (l ++ p).length c')) w') : wpList Try.prog ops Q (o :: rest) a w := by
  obtain ⟨i0, hi, hz0, hz1, hz2⟩ := info_parts info_int
  refine BigFrame.wpList_want hgd fun K hK => ?_
  refine wp_addAny (enc := encI) (k := 1) 33 3 8 i0 _ Try.underlying33 hi hz0 hz1 hz2 rfl (by decide) encI_len encI_one s x ho base v l hs hown B v2 p hx hp (by unfold maxLen; omega) (by omega) hbase fun A' c' w' h1 h2 => ?_
  exact hK _ _ (h A' c' w' (Lib.hid h1) (Lib.hid (hown.grown hb h2 hC (Nat.le_trans hC hbase))) (Lib.hid (Nat.le_trans hbase h2.size)))

/-- what is known of the data of ints -/
def SizedI {H : Type} (d : DataW H) (l : List Int) : Prop := (d = .nil ∧ l = []) ∨ ∃ el sp, d = .slice el sp ∧ el.length = l.length
set_option maxRecDepth 100000 in
/-- a slice of ints that came in reads as a list -/
theorem open_intsI {H : Type} {enc : TypeId × Value → H} {W : World} {base : Nat} {v : Value} {d : DataW H} {p : List MemPlace} (hv : Value.okWide Try.prog W .any base 33 v) (h : DataW.Trod enc Try.prog W 0 (fun _ => true) true 33 v d p) :
    ∃ l, RdI W W.heap.size v l ∧ SizedI d l ∧ ∀ n ∈ l, -9223372036854775808 ≤ n ∧ n < 9223372036854775808 := by
  obtain ⟨a0, len, cap, rfl⟩ := okWide_slice Try.underlying33 hv
  obtain ⟨fuel, hf⟩ := h
  rcases open_ints Try.underlying33 Try.underlying3 (by kernel_rfl) hf with ⟨hcs, hx⟩ | ⟨a, len', cap', zs, hcs, _, hl, hm, hz, hx, hcell, hwz⟩
  · simp only [Value.cells] at hcs
    have e : Value.slice a0 len cap = .slice none 0 0 := by simpa using hcs
    injection e with e1 e2 e3
    subst e1 e2 e3
    simp only [Prod.mk.injEq] at hx
    exact ⟨[], Rd.nil _ _, .inl ⟨hx.1, rfl⟩, by simp⟩
  · simp only [Value.cells] at hcs
    have e : Value.slice a0 len cap = .slice (some a) len' cap' := by simpa using hcs
    injection e with e1 e2 e3
    subst e1 e2 e3
    simp only [Prod.mk.injEq] at hx
    obtain ⟨rfl, rfl⟩ := hx
    simp only [if_true] at hz
    have hb : ∀ n ∈ zs, -9223372036854775808 ≤ n ∧ n < 9223372036854775808 := fun n hn => by
      have h := hwz n hn
      have h1 : IntKind.i64.min = -9223372036854775808 := rfl
      have h2 : IntKind.i64.max = 9223372036854775807 := rfl
      simp only [Lit.wf, Bool.and_eq_true, decide_eq_true_eq] at h
      omega
    have hlen : (zs.take len).length = len := by simp; omega
    refine ⟨zs.take len, ⟨some a, cap, by rw [hlen], by rw [hlen]; exact hl, fun i hi => ?_⟩, .inr ⟨_, _, rfl, by simp [lits]⟩, fun n hn => hb n (List.mem_of_mem_take hn)⟩
    have hi' : i < len := by omega
    have hc := hcell i (by omega)
    have hsp : a.spot = none := by
      have h0 := hcell 0 (by omega)
      have e0 : a.add 0 = a := rfl
      rw [e0] at h0
      exact World.cell?_spot h0
    rw [addr_add a i hsp] at hc
    have hblk := World.block_lt_of_cell? _ _ hc
    refine ⟨a.block, a.off, by cases a; simp only at hsp; subst hsp; rfl, hblk, fun j u hu => ?_⟩
    match j, hu with
    | 0, hu =>
      simp only [encI, List.getElem?_cons_zero, Option.some.injEq] at hu
      subst hu
      have hlt : i < zs.length := by omega
      rw [Nat.mul_one, Nat.add_zero, hc]
      simp [List.getD, hlt]
    | j + 1, hu => simp [encI] at hu
set_option maxRecDepth 100000 in
theorem SizedI.reach {H : Type} {ts : List TypeId} {ds : List (DataW H)} (h : (DataW.weightsEach Try.prog ts ds).all (· ≤ reachBytes) = true) {j : Nat} {d : DataW H} {l : List Int} (hs : SizedI d l) (ht : ts[j]? = some 33) (hd : ds[j]? = some d) : l.length ≤ 17592186043904 := by
  rcases hs with ⟨_, rfl⟩ | ⟨el, sp, rfl, he⟩
  · simp
  · have := sized_slice h ht hd Try.underlying33
    rw [show Try.prog.bytesOf 3 = 8 by kernel_rfl, show reachBytes = 140737488351232 from rfl] at this
    omega
end Go.Proofs.Ythoheikbpihflaa
namespace Go.Proofs.Ythoheikbpihflaa
open Go.RowKit

/-- numbers' bytes, one behind the other -/
def encs (l : List Int) : List UInt8 := l.flatMap fun n => enc n.toNat
set_option maxRecDepth 100000 in
theorem encs_append (a b : List Int) : encs (a ++ b) = encs a ++ encs b := by simp [encs]
set_option maxRecDepth 100000 in
theorem encs_len (l : List Int) (h : ∀ n ∈ l, n < 9223372036854775808) : (encs l).length ≤ l.length * 9 := by
  induction l with
  | nil => simp [encs]
  | cons x r ih =>
    have h1 := ih (fun n hn => h n (by simp [hn]))
    have h2 := enc_len9 (n := x.toNat) (by have := h x (by simp); omega)
    have : encs (x :: r) = enc x.toNat ++ encs r := rfl
    rw [this, List.length_append, List.length_cons]
    omega
/-- what Nums answers -/
def numsAns (l : List Int) : List UInt8 × Int := if l.length > 4096 then ([], 6) else if l.any (· < 0) then ([], 5) else (encs l, 0)
end Go.Proofs.Ythoheikbpihflaa
namespace Go.Proofs.Ythoheikbpihflaa

/-- one bit falls out -/
def step (r : Nat) : Nat := if r % 2 = 1 then (r / 2) ^^^ 2197175160 else r / 2
def steps : Nat → Nat → Nat
  | 0, r => r
  | n + 1, r => steps n (step r)
theorem steps_succ (n r : Nat) : steps (n + 1) r = step (steps n r) := by
  induction n generalizing r with
  | zero => rfl
  | succ n ih => rw [steps, ih, ← steps]
theorem steps_add (m n r : Nat) : steps (m + n) r = steps n (steps m r) := by
  induction m generalizing r with
  | zero => simp [steps]
  | succ m ih => rw [show m + 1 + n = (m + n) + 1 by omega, steps, ih, ← steps]

theorem step_lt {r : Nat} (h : r < 2 ^ 32) : step r < 2 ^ 32 := by
  unfold step
  split
  · exact Nat.xor_lt_two_pow (by omega) (by decide)
  · omega
theorem steps_lt {r : Nat} (h : r < 2 ^ 32) : ∀ n, steps n r < 2 ^ 32
  | 0 => h
  | n + 1 => by rw [steps_succ]; exact step_lt (steps_lt h n)

theorem xor_mod2 (a b : Nat) : (a ^^^ b) % 2 = (a % 2) ^^^ (b % 2) := Nat.xor_mod_two_pow (n := 1)
theorem xor_div2 (a b : Nat) : (a ^^^ b) / 2 = (a / 2) ^^^ (b / 2) := Nat.xor_div_two_pow (n := 1)

theorem xcomm (a b : Nat) : a ^^^ b = b ^^^ a := Nat.xor_comm a b
theorem xleft (a b c : Nat) : a ^^^ (b ^^^ c) = b ^^^ (a ^^^ c) := by rw [← Nat.xor_assoc, Nat.xor_comm a b, Nat.xor_assoc]
theorem xcancel (a b : Nat) : a ^^^ (a ^^^ b) = b := by rw [← Nat.xor_assoc, Nat.xor_self, Nat.zero_xor]

theorem step_xor (a b : Nat) : step (a ^^^ b) = step a ^^^ step b := by
  unfold step
  rw [xor_mod2, xor_div2]
  rcases Nat.mod_two_eq_zero_or_one a with ha | ha <;> rcases Nat.mod_two_eq_zero_or_one b with hb | hb <;> simp only [ha, hb]
  · simp
  · simp [Nat.xor_assoc]
  · simp; simp only [Nat.xor_assoc, xcomm, xleft]
  · simp; simp only [xcomm, xleft]; simp only [Nat.xor_self, Nat.xor_zero]
theorem steps_xor (n a b : Nat) : steps n (a ^^^ b) = steps n a ^^^ steps n b := by
  induction n generalizing a b with
  | zero => rfl
  | succ n ih => rw [steps, step_xor, ih, ← steps, ← steps]
theorem step_zero : step 0 = 0 := rfl
theorem steps_zero (n : Nat) : steps n 0 = 0 := by
  induction n with
  | zero => rfl
  | succ n ih => rw [steps, step_zero, ih]

/-- a step loses nothing: the highest bit behind it tells which bit fell out -/
theorem step_ne {r : Nat} (h : r < 2 ^ 32) (h0 : step r = 0) : r = 0 := by
  unfold step at h0
  split at h0
  · have e : r / 2 = 2197175160 := by
      have := congrArg (fun x => x ^^^ 2197175160) h0
      simp only [Nat.xor_assoc, Nat.xor_self, Nat.xor_zero, Nat.zero_xor] at this
      exact this
    omega
  · omega
theorem steps_ne {r : Nat} (h : r < 2 ^ 32) : ∀ {n}, steps n r = 0 → r = 0
  | 0, h0 => h0
  | n + 1, h0 => steps_ne h (step_ne (steps_lt h n) (by rw [← steps_succ]; exact h0))

theorem step_double (r : Nat) : step (r * 2) = r := by unfold step; split <;> omega
theorem steps_shift : ∀ (n r : Nat), steps n (r * 2 ^ n) = r
  | 0, r => by simp [steps]
  | n + 1, r => by rw [Nat.pow_succ, ← Nat.mul_assoc, steps, step_double, steps_shift]

/-- a byte -/
def take8 (r : Nat) (c : UInt8) : Nat := steps 8 (r ^^^ c.toNat)
/-- bytes -/
def run (r : Nat) (l : List UInt8) : Nat := l.foldl take8 r
theorem run_nil (r : Nat) : run r [] = r := rfl
theorem run_cons (r : Nat) (c : UInt8) (l : List UInt8) : run r (c :: l) = run (take8 r c) l := rfl
theorem run_append (r : Nat) (a b : List UInt8) : run r (a ++ b) = run (run r a) b := List.foldl_append
theorem cbyte_lt (c : UInt8) : c.toNat < 256 := c.toNat_lt
theorem take8_lt {r : Nat} (h : r < 2 ^ 32) (c : UInt8) : take8 r c < 2 ^ 32 := steps_lt (Nat.xor_lt_two_pow h (by have := cbyte_lt c; omega)) 8
theorem run_lt {r : Nat} (h : r < 2 ^ 32) : ∀ l, run r l < 2 ^ 32
  | [] => h
  | c :: l => run_lt (take8_lt h c) l

/-- the sum of bytes behind others -/
def more (s : Nat) (l : List UInt8) : Nat := run (s ^^^ 4294967295) l ^^^ 4294967295
def sum (l : List UInt8) : Nat := more 0 l
theorem more_lt {s : Nat} (h : s < 2 ^ 32) (l : List UInt8) : more s l < 2 ^ 32 := Nat.xor_lt_two_pow (run_lt (Nat.xor_lt_two_pow h (by decide)) l) (by decide)
theorem sum_lt (l : List UInt8) : sum l < 2 ^ 32 := more_lt (by decide) l

/-- a text may be summed in two parts -/
theorem more_sum (a b : List UInt8) : more (sum a) b = sum (a ++ b) := by
  simp only [sum, more, run_append, Nat.xor_assoc, Nat.xor_self, Nat.xor_zero]

/-- the bits of two texts of one length, added -/
def addB (a b : List UInt8) : List UInt8 := List.zipWith (· ^^^ ·) a b
theorem toNat_xor (a b : UInt8) : (a ^^^ b).toNat = a.toNat ^^^ b.toNat := UInt8.toNat_xor a b
theorem take8_xor (r s : Nat) (a b : UInt8) : take8 (r ^^^ s) (a ^^^ b) = take8 r a ^^^ take8 s b := by
  unfold take8
  rw [toNat_xor, ← steps_xor]
  congr 1
  simp only [Nat.xor_assoc, xleft]
theorem run_addB : ∀ (a b : List UInt8) (r s : Nat), a.length = b.length → run (r ^^^ s) (addB a b) = run r a ^^^ run s b
  | [], [], r, s, _ => rfl
  | x :: a, y :: b, r, s, h => by
    rw [addB, List.zipWith_cons_cons, run_cons, take8_xor, ← addB, run_addB a b _ _ (by simpa using h), run_cons, run_cons]
/-- three texts of one length -/
theorem sum_three (a b c : List UInt8) (hb : b.length = a.length) (hc : c.length = a.length) : sum (addB (addB a b) c) = sum a ^^^ sum b ^^^ sum c := by
  have h := run_addB (addB a b) c (4294967295 ^^^ 4294967295) 4294967295 (by simp [addB]; omega)
  rw [run_addB a b _ _ hb.symm] at h
  simp only [sum, more, Nat.zero_xor]
  rw [show (4294967295 ^^^ 4294967295 ^^^ 4294967295 : Nat) = 4294967295 by decide] at h
  rw [h]
  simp only [Nat.xor_assoc, xcomm, xleft, xcancel]
  
/-- bytes of 0 leave the register 0 -/
theorem run_zeros : ∀ n, run 0 (List.replicate n 0) = 0
  | 0 => rfl
  | n + 1 => by rw [List.replicate_succ, run_cons, show take8 0 0 = 0 from rfl, run_zeros n]
/-- a register that is not 0 stays so -/
theorem run_ne : ∀ (n r : Nat), r < 2 ^ 32 → r ≠ 0 → run r (List.replicate n 0) ≠ 0
  | 0, r, _, h => h
  | n + 1, r, hr, h => by
    rw [List.replicate_succ, run_cons]
    refine run_ne n _ (take8_lt hr 0) fun h0 => h ?_
    unfold take8 at h0
    simpa using steps_ne (by simpa using hr) h0

/-- byte k of a number -/
def byteAt (t k : Nat) : UInt8 := UInt8.ofNat (t / 2 ^ (8 * k))
theorem byteAt_toNat (t k : Nat) : (byteAt t k).toNat = t / 2 ^ (8 * k) % 256 := by simp [byteAt]
def four (t : Nat) : List UInt8 := [byteAt t 0, byteAt t 1, byteAt t 2, byteAt t 3]

theorem steps8_into (x d : Nat) : steps 8 x ^^^ d = steps 8 (x ^^^ d * 256) := by
  rw [steps_xor, show d * 256 = d * 2 ^ 8 by rfl, steps_shift]
/-- the four bytes of a number, as a difference -/
theorem run_four {t : Nat} (ht : t < 2 ^ 32) (h : run 0 (four t) = 0) : t = 0 := by
  obtain ⟨a, ha⟩ : ∃ a, a = t % 256 := ⟨_, rfl⟩
  obtain ⟨b, hb⟩ : ∃ b, b = t / 256 % 256 := ⟨_, rfl⟩
  obtain ⟨c, hc⟩ : ∃ c, c = t / 65536 % 256 := ⟨_, rfl⟩
  obtain ⟨d, hd⟩ : ∃ d, d = t / 16777216 % 256 := ⟨_, rfl⟩
  have e0 : (byteAt t 0).toNat = a := by rw [byteAt_toNat, ha]; simp
  have e1 : (byteAt t 1).toNat = b := by rw [byteAt_toNat, hb]
  have e2 : (byteAt t 2).toNat = c := by rw [byteAt_toNat, hc]
  have e3 : (byteAt t 3).toNat = d := by rw [byteAt_toNat, hd]
  have key : steps 8 (steps 8 (steps 8 (steps 8 a ^^^ b) ^^^ c) ^^^ d) = 0 := by
    have h' := h
    simp only [four, run_cons, run_nil, take8, e0, e1, e2, e3, Nat.zero_xor] at h'
    exact h'
  rw [steps8_into a b, ← steps_add, show steps (8 + 8) (a ^^^ b * 256) ^^^ c = steps (8 + 8) (a ^^^ b * 256 ^^^ c * 65536) by
    rw [steps_xor _ (a ^^^ b * 256), show c * 65536 = c * 2 ^ (8 + 8) by rfl, steps_shift], ← steps_add,
    show steps (8 + 8 + 8) (a ^^^ b * 256 ^^^ c * 65536) ^^^ d = steps (8 + 8 + 8) (a ^^^ b * 256 ^^^ c * 65536 ^^^ d * 16777216) by
    rw [steps_xor _ (a ^^^ b * 256 ^^^ c * 65536), show d * 16777216 = d * 2 ^ (8 + 8 + 8) by rfl, steps_shift], ← steps_add] at key
  have hlt : a ^^^ b * 256 ^^^ c * 65536 ^^^ d * 16777216 < 2 ^ 32 :=
    Nat.xor_lt_two_pow (Nat.xor_lt_two_pow (Nat.xor_lt_two_pow (by omega) (by omega)) (by omega)) (by omega)
  have hz := steps_ne hlt key
  have m : ∀ x y : Nat, (x ^^^ y) % 256 = (x % 256) ^^^ (y % 256) := fun x y => Nat.xor_mod_two_pow (n := 8)
  have q : ∀ x y : Nat, (x ^^^ y) / 256 = (x / 256) ^^^ (y / 256) := fun x y => Nat.xor_div_two_pow (n := 8)
  have z0 := congrArg (· % 256) hz
  have z1 := congrArg (· / 256 % 256) hz
  have z2 := congrArg (· / 256 / 256 % 256) hz
  have z3 := congrArg (· / 256 / 256 / 256 % 256) hz
  simp only [m, q] at z0 z1 z2 z3
  rw [show b * 256 % 256 = 0 by omega, show c * 65536 % 256 = 0 by omega, show d * 16777216 % 256 = 0 by omega] at z0
  rw [show a / 256 = 0 by omega, show b * 256 / 256 = b by omega, show c * 65536 / 256 = c * 256 by omega, show d * 16777216 / 256 = d * 65536 by omega, show c * 256 % 256 = 0 by omega, show d * 65536 % 256 = 0 by omega] at z1
  rw [show a / 256 / 256 = 0 by omega, show b * 256 / 256 / 256 = 0 by omega, show c * 65536 / 256 / 256 = c by omega, show d * 16777216 / 256 / 256 = d * 256 by omega, show d * 256 % 256 = 0 by omega] at z2
  rw [show a / 256 / 256 / 256 = 0 by omega, show b * 256 / 256 / 256 / 256 = 0 by omega, show c * 65536 / 256 / 256 / 256 = 0 by omega, show d * 16777216 / 256 / 256 / 256 = d by omega] at z3
  simp at z0 z1 z2 z3
  omega

/-- a text whose four bytes from i on are turned by t -/
theorem burst (p m s : List UInt8) (t : Nat) (hm : m.length = 4) (ht : t < 2 ^ 32) (h0 : t ≠ 0) : sum (p ++ (addB m (four t) ++ s)) ≠ sum (p ++ (m ++ s)) := by
  have hd : p ++ (addB m (four t) ++ s) = addB (p ++ (m ++ s)) (List.replicate p.length 0 ++ (four t ++ List.replicate s.length 0)) := by
    have hz : ∀ l : List UInt8, addB l (List.replicate l.length 0) = l := by
      intro l
      induction l with
      | nil => rfl
      | cons x l ih => rw [List.length_cons, List.replicate_succ, addB, List.zipWith_cons_cons, ← addB, ih]; simp
    show _ = List.zipWith _ _ _
    rw [List.zipWith_append (by simp), List.zipWith_append (by simp [hm, four])]
    show _ = addB _ _ ++ (addB _ _ ++ addB _ _)
    rw [hz, hz]
  have hlen : (p ++ (m ++ s)).length = (List.replicate p.length (0 : UInt8) ++ (four t ++ List.replicate s.length 0)).length := by simp [hm, four]; omega
  rw [hd]
  intro h
  have h1 := run_addB (p ++ (m ++ s)) _ 4294967295 0 hlen
  rw [Nat.xor_zero] at h1
  simp only [sum, more, Nat.zero_xor] at h
  rw [h1] at h
  have h2 : run 0 (List.replicate p.length 0 ++ (four t ++ List.replicate s.length 0)) = 0 := by
    have := congrArg (fun x => run 4294967295 (p ++ (m ++ s)) ^^^ (x ^^^ 4294967295)) h
    simp only [Nat.xor_assoc, Nat.xor_self, Nat.xor_zero, xcancel] at this
    exact this
  rw [run_append, run_zeros, run_append] at h2
  refine run_ne s.length (run 0 (four t)) (run_lt (by decide) _) (fun h3 => h0 (run_four ht h3)) h2
end Go.Proofs.Ythoheikbpihflaa
namespace Go.Proofs.Ythoheikbpihflaa
theorem xor_nat (k : IntKind) (j : Nat) (hj : j ≤ k.bits) (hk : ∀ n : Int, 0 ≤ n → n < 2 ^ j → k.wrap n = n) (a b : Nat) (ha : a < 2 ^ j) (hb : b < 2 ^ j) : bits .xor k a b = ((a ^^^ b : Nat) : Int) := by
  have hp : 2 ^ j ≤ 2 ^ k.bits := Nat.pow_le_pow_right (by decide) hj
  have ha' : a % 2 ^ k.bits = a := Nat.mod_eq_of_lt (Nat.lt_of_lt_of_le ha hp)
  have hb' : b % 2 ^ k.bits = b := Nat.mod_eq_of_lt (Nat.lt_of_lt_of_le hb hp)
  simp only [bits, BitVec.ofInt_natCast, BitVec.toNat_xor, BitVec.toNat_ofNat, ha', hb']
  exact hk _ (Int.natCast_nonneg _) (by exact_mod_cast Nat.xor_lt_two_pow ha hb)
theorem xor32 {a b : Nat} (ha : a < 2 ^ 32) (hb : b < 2 ^ 32) : bits .xor .u32 (a : Int) (b : Int) = ((a ^^^ b : Nat) : Int) := xor_nat .u32 32 (by decide) wraps_u32 a b ha hb
theorem xor8 {a b : Nat} (ha : a < 2 ^ 8) (hb : b < 2 ^ 8) : bits .xor .u8 (a : Int) (b : Int) = ((a ^^^ b : Nat) : Int) := xor_nat .u8 8 (by decide) wraps_u8 a b ha hb
end Go.Proofs.Ythoheikbpihflaa
namespace Go.Proofs.Ythoheikbpihflaa
open Go.RowKit

set_option maxRecDepth 100000 in
theorem and1 {a : Nat} (ha : a < 2 ^ 32) : bits .and .u32 (a : Int) 1 = ((a % 2 : Nat) : Int) := by
  have := bits_mask .u32 32 (by decide) wraps_u32 1 (by decide) (a : Int) (by omega) (by exact_mod_cast ha)
  simpa using this

set_option maxHeartbeats 400000 in
set_option maxRecDepth 100000 in
theorem shift_any (r : Nat) (hr : r < 2 ^ 32) (w : World) : Calls Try.prog 78 #[.int .u32 r] w fun e w' => e = .returned (.int .u32 (steps 8 r : Nat)) ∧ w' = w := by
  go_enter Try.func78, Try.ntmps78
  go_wp2
  go_loop [0, 4] (fun rv i => ∃ j q : Nat, j ≤ 8 ∧ i = .int .i64 j ∧ rv = .int .u32 q ∧ q < 2 ^ 32 ∧ steps 8 r = steps (8 - j) q) (fun _ i => 8 - (intOf i).toNat)
  case atStart => exact ⟨0, r, Nat.zero_le _, rfl, rfl, hr, rfl⟩
  case round =>
    obtain ⟨j, q, hj, rfl, rfl, hq, he⟩ := hrel
    have HE := Lib.hid he; clear he
    by_cases hlt : j < 8
    · have h1 := and1 hq
      have h3 : bits .xor .u32 ((q : Int) / 2) 2197175160 = ((q / 2 ^^^ 2197175160 : Nat) : Int) := by
        have := xor32 (a := q / 2) (b := 2197175160) (by omega) (by decide)
        simpa using this
      rcases Nat.mod_two_eq_zero_or_one q with hm | hm
      all_goals
        rw [hm] at h1
        go_wp2_with fail
        go_round
        case rel => exact ⟨j + 1, step q, by omega, by go_num, by unfold step; rw [hm]; simp, step_lt hq, by rw [HE.out, show 8 - j = (8 - (j + 1)) + 1 by omega, steps]⟩
        case measure => simp [intOf]; omega
    · go_wp2_with fail
      go_ret
      exact ⟨by rw [HE.out, show 8 - j = 0 by omega]; rfl, rfl⟩

set_option maxRecDepth 100000 in
theorem byte32 (c : UInt8) : IntKind.u32.wrap (c.toNat : Int) = (c.toNat : Int) := wraps_u32 _ (by omega) (by have := byte_lt c; omega)
set_option maxRecDepth 100000 in
theorem run_take_succ (r : Nat) (l : List UInt8) (j : Nat) (h : j < l.length) : run r (l.take (j + 1)) = take8 (run r (l.take j)) l[j] := by
  rw [List.take_add_one, List.getElem?_eq_getElem h, run_append]; rfl

set_option maxHeartbeats 400000 in
set_option maxRecDepth 100000 in
theorem more_any (s : Nat) (hs : s < 2 ^ 32) (l : List UInt8) (v : Value) (w : World) (B : Nat) (hv : RdB w B v l) (hl : l.length < 4611686018427387904) : Calls Try.prog 71 #[.int .u32 s, v] w fun e w' => e = .returned (.int .u32 (more s l : Nat)) ∧ w' = w := by
  obtain ⟨A, c, rfl, hc, hi⟩ := hv.at
  have h0 : bits .xor .u32 IntKind.u32.max (s : Int) = ((4294967295 ^^^ s : Nat) : Int) := xor32 (a := 4294967295) (by decide) hs
  have hr0 : 4294967295 ^^^ s < 2 ^ 32 := Nat.xor_lt_two_pow (by decide) hs
  have HI := Lib.hid hi; clear hi
  have HV := Lib.hid hv; clear hv
  go_enter Try.func71, Try.ntmps71
  go_wp2
  go_loop [5, 12] (fun rv i => ∃ j q : Nat, j ≤ l.length ∧ i = .int .i64 j ∧ rv = .int .u32 q ∧ q < 2 ^ 32 ∧ q = run (4294967295 ^^^ s) (l.take j)) (fun _ i => l.length - (intOf i).toNat)
  case atStart => exact ⟨0, _, Nat.zero_le _, rfl, rfl, hr0, rfl⟩
  case round =>
    obtain ⟨j, q, hj, rfl, rfl, hq, he⟩ := hrel
    have HE := Lib.hid he; clear he
    by_cases hlt : j < l.length
    · obtain ⟨b, o, rfl, hbB, h1⟩ := HI.out j hlt
      have h2 := byte32 l[j]
      have h3 : bits .xor .u32 (q : Int) (l[j].toNat : Int) = ((q ^^^ l[j].toNat : Nat) : Int) := xor32 hq (by have := byte_lt l[j]; omega)
      have h4 : q ^^^ l[j].toNat < 2 ^ 32 := Nat.xor_lt_two_pow hq (by have := byte_lt l[j]; omega)
      go_wp2_with fail
      refine (shift_any _ h4 _).mono ?_
      rintro e w1 ⟨rfl, rfl⟩
      go_wp2_with fail
      go_round
      case rel => exact ⟨j + 1, steps 8 (q ^^^ l[j].toNat), by omega, by go_num, rfl, steps_lt h4 8, by rw [run_take_succ _ _ _ hlt, ← HE.out]; rfl⟩
      case measure => simp [intOf]; omega
    · have h5 : bits .xor .u32 IntKind.u32.max (q : Int) = ((4294967295 ^^^ q : Nat) : Int) := xor32 (a := 4294967295) (by decide) hq
      go_wp2_with fail
      go_ret
      exact ⟨by rw [HE.out, List.take_of_length_le (by omega), more, xcomm s, xcomm (run _ _)]; rfl, rfl⟩

set_option maxHeartbeats 400000 in
set_option maxRecDepth 100000 in
theorem sum_any (l : List UInt8) (v : Value) (w : World) (B : Nat) (hv : RdB w B v l) (hl : l.length < 4611686018427387904) : Calls Try.prog 61 #[v] w fun e w' => e = .returned (.int .u32 (sum l : Nat)) ∧ w' = w := by
  have HM := Lib.hid (more_any 0 (by decide) l v w B hv hl)
  obtain ⟨A, c, rfl, hc, hi⟩ := hv
  clear hi
  go_enter Try.func61, Try.ntmps61
  go_wp2_with fail
  refine HM.out.mono ?_
  rintro e w1 ⟨rfl, rfl⟩
  go_wp2_with fail
  go_ret
  exact ⟨rfl, rfl⟩

end Go.Proofs.Ythoheikbpihflaa
namespace Go.Proofs.Ythoheikbpihflaa
open Go.RowKit

/-- a number out of bytes, the lowest first -/
def val : List UInt8 → Nat
  | [] => 0
  | c :: r => c.toNat + 256 * val r
set_option maxRecDepth 100000 in
theorem val_append (a b : List UInt8) : val (a ++ b) = val a + 256 ^ a.length * val b := by
  induction a with
  | nil => simp [val]
  | cons c a ih => rw [List.cons_append, val, ih, val, List.length_cons, Nat.pow_succ, Nat.mul_add, Nat.add_assoc, Nat.mul_comm (256 ^ a.length) 256, Nat.mul_assoc]
set_option maxRecDepth 100000 in
theorem val_lt : ∀ l : List UInt8, val l < 256 ^ l.length
  | [] => by simp [val]
  | c :: l => by
    have := val_lt l
    have := byte_lt c
    rw [val, List.length_cons, Nat.pow_succ]
    omega
set_option maxRecDepth 100000 in
theorem val_four {t : Nat} (h : t < 2 ^ 32) : val (four t) = t := by
  simp only [four, val, byteAt_toNat]
  simp only [Nat.mul_zero, Nat.pow_zero, Nat.div_one, Nat.reduceMul, Nat.reducePow]
  omega
set_option maxRecDepth 100000 in
theorem four_val {l : List UInt8} (h : l.length = 4) : four (val l) = l := by
  match l, h with
  | [a, b, c, d], _ =>
    have ha := byte_lt a
    have hb := byte_lt b
    have hc := byte_lt c
    have hd := byte_lt d
    simp only [four, val, byteAt, Nat.mul_zero, Nat.pow_zero, Nat.div_one, Nat.reduceMul, Nat.reducePow, Nat.add_zero]
    have e : ∀ (x : Nat) (y : UInt8), x % 256 = y.toNat → UInt8.ofNat x = y := fun x y h => by
      apply UInt8.toNat_inj.1
      simpa using h
    rw [e _ a (by omega), e _ b (by omega), e _ c (by omega), e _ d (by omega)]
set_option maxRecDepth 100000 in
theorem fill_set (F : List UInt8) (j m : Nat) (h : j < F.length) : ((F.take j) ++ List.replicate (m + 1) 0).set j F[j] = F.take (j + 1) ++ List.replicate m 0 := by
  rw [List.set_append_right _ _ (by simp; omega)]
  simp only [List.length_take, Nat.min_eq_left (Nat.le_of_lt h), Nat.sub_self, List.replicate_succ, List.set_cons_zero]
  rw [List.take_add_one, List.getElem?_eq_getElem h, Option.toList_some, List.append_assoc, List.singleton_append]

set_option maxHeartbeats 400000 in
set_option maxRecDepth 100000 in
theorem ahead_any (l : List UInt8) (h4 : 4 ≤ l.length) (v : Value) (w : World) (B : Nat) (hv : RdB w B v l) : Calls Try.prog 60 #[v] w fun e w' => e = .returned (.int .u32 (val (l.take 4) : Nat)) ∧ w' = w := by
  obtain ⟨A, c, rfl, hc, hi⟩ := hv.at
  have HI := Lib.hid hi; clear hi
  have HV := Lib.hid hv; clear hv
  go_enter Try.func60, Try.ntmps60
  go_wp2
  go_loop [3, 5] (fun rv i => ∃ j q : Nat, j ≤ 4 ∧ i = .int .i64 j ∧ rv = .int .u32 q ∧ q = val (l.take j)) (fun _ i => 4 - (intOf i).toNat)
  case atStart => exact ⟨0, 0, Nat.zero_le _, rfl, rfl, rfl⟩
  case round =>
    obtain ⟨j, q, hj, rfl, rfl, he⟩ := hrel
    have hq := val_lt (l.take j)
    rw [← he, List.length_take, Nat.min_eq_left (by omega)] at hq
    have HE := Lib.hid he; clear he
    by_cases hlt : j < 4
    · obtain ⟨b, o, rfl, hbB, h1⟩ := HI.out j (by omega)
      have h2 := byte32 (l[j]'(by omega))
      have hx : l[j].toNat * 2 ^ (8 * j) < 4294967296 := by
        have h8 := byte_lt l[j]
        have hp : 2 ^ (8 * j) ≤ 2 ^ (8 * 3) := Nat.pow_le_pow_right (by decide) (by omega)
        calc _ ≤ 255 * 2 ^ (8 * 3) := Nat.mul_le_mul (by omega) hp
          _ < _ := by decide
      have hor : bits .or .u32 (q : Int) ((l[j].toNat : Int) * 2 ^ (8 * j) % 4294967296) = ((q + l[j].toNat * 2 ^ (8 * j) : Nat) : Int) := by
        have e : ((l[j].toNat : Int) * 2 ^ (8 * j) % 4294967296) = ((l[j].toNat * 2 ^ (8 * j) : Nat) : Int) := by
          have : ((l[j].toNat : Int) * 2 ^ (8 * j)) = ((l[j].toNat * 2 ^ (8 * j) : Nat) : Int) := by simp
          rw [this]; omega
        rw [e]
        have hq2 : q < 2 ^ (8 * j) := by rw [Nat.pow_mul]; exact hq
        have hp : 2 ^ (8 * j) ≤ 2 ^ 32 := Nat.pow_le_pow_right (by decide) (by omega)
        have := bits_join_low .u32 32 (by decide) wraps_u32 (8 * j) (q : Int) ((l[j].toNat * 2 ^ (8 * j) : Nat) : Int) (by omega) (by exact_mod_cast hq2) (by exact_mod_cast Nat.lt_of_lt_of_le hq2 hp) (by omega) (by simp) (by exact_mod_cast hx)
        rw [this]; simp
      have hs : q + l[j].toNat * 2 ^ (8 * j) = val (l.take (j + 1)) := by
        rw [List.take_add_one, List.getElem?_eq_getElem (by omega), val_append, ← HE.out, List.length_take, Nat.min_eq_left (by omega), Nat.pow_mul, Nat.mul_comm]
        simp [val]
      have HS := Lib.hid hs; clear hs hx
      go_wp2_with fail
      go_round
      case rel => exact ⟨j + 1, _, by omega, by go_num, rfl, HS.out⟩
      case measure => simp [intOf]; omega
    · go_wp2_with fail
      go_ret
      exact ⟨by rw [HE.out, show j = 4 by omega]; rfl, rfl⟩

def sealed (l : List UInt8) : List UInt8 := four (sum l) ++ l
set_option maxRecDepth 100000 in
theorem byteAt_conv {t : Nat} (j : Nat) : IntKind.u8.wrap ((t : Int) / 2 ^ (8 * j)) = ((byteAt t j).toNat : Int) := by
  rw [IntKind.wrap_u8, byteAt_toNat]
  simp
set_option maxRecDepth 100000 in
theorem four_get (t j : Nat) (h : j < (four t).length) : (four t)[j] = byteAt t j := by
  match j, h with
  | 0, _ => rfl
  | 1, _ => rfl
  | 2, _ => rfl
  | 3, _ => rfl

set_option maxHeartbeats 1000000 in
set_option maxRecDepth 100000 in
theorem seal_any (l : List UInt8) (v : Value) (w : World) (hv : RdB w w.heap.size v l) (hl : l.length ≤ 140737488355328) : Calls Try.prog 77 #[v] w fun e w' => e = .returned (.slice (some ⟨w.heap.size, 0, none⟩) (sealed l).length (sealed l).length) ∧ RowB w' w.heap.size (sealed l) ∧ Below w.heap.size w w' := by
  have hsum := sum_any l v w _ hv (by omega)
  obtain ⟨A, c, rfl, hc, _⟩ := hv.at
  obtain ⟨t, ht⟩ : ∃ t, t = sum l := ⟨_, rfl⟩
  have htl : t < 2 ^ 32 := by rw [ht]; exact sum_lt l
  rw [← ht] at hsum
  have HT := Lib.hid ht; clear ht
  have HS := Lib.hid hsum; clear hsum
  have HV := Lib.hid hv; clear hv
  obtain ⟨g, hg⟩ : ∃ g, g = w.heap.size := ⟨_, rfl⟩
  have HG := Lib.hid hg
  have hw : IntKind.i64.wrap (4 + (l.length : Int)) = ((l.length + 4 : Nat) : Int) := by rw [IntKind.wrap_i64]; omega
  clear hg
  go_enter Try.func77, Try.ntmps77
  go_wp2_with fail
  refine HS.out.mono ?_
  rintro e w1 ⟨rfl, rfl⟩
  go_wp2_with (refine wpList_makeB rfl _ _ rfl (l.length + 4) ?c1 ?c2 (by omega) ?c3)
  case c1 => rfl
  case c2 => rfl
  intro w2 hr2 hb2
  rw [← HG.out] at hr2
  rw [show w1.heap.size = g from HG.out.symm]
  have HR2 := Lib.hid hr2; clear hr2
  have HB2 := Lib.hid hb2; clear hb2
  go_wp2_with fail
  go_loopw [12] (fun i wr => ∃ j : Nat, j ≤ 4 ∧ i = .int .i64 j ∧ RowB wr g ((four t).take j ++ List.replicate (l.length + 4 - j) 0) ∧ Below g w1 wr) (fun i _ => 4 - (intOf i).toNat)
  case atStart => exact ⟨0, Nat.zero_le _, rfl, HR2.out, by rw [HG.out]; exact HB2.out⟩
  case round =>
    obtain ⟨j, hj, rfl, hr, hb⟩ := hrel
    by_cases hlt : j < 4
    · have hfl : j < (four t).length := hlt
      have hcl : j < ((four t).take j ++ List.replicate (l.length + 4 - j) (0 : UInt8)).length := by simp [four]; omega
      have hc0 := hr.cell j hcl
      have hf0 := hr.frozen j
      have hset := hr.set j (byteAt t j)
      rw [show l.length + 4 - j = (l.length + 4 - (j + 1)) + 1 by omega, ← four_get t j hfl, fill_set _ _ _ hfl, four_get t j hfl] at hset
      have hcv := byteAt_conv (t := t) j
      have hbs := hb.setCell (p := ⟨g, j, none⟩) (Nat.le_refl _) (.int .u8 ((byteAt t j).toNat : Int))
      have HR := Lib.hid hset
      have HB := Lib.hid hbs
      clear hr hset hbs
      go_wp2_with fail
      go_roundw
      case rel => exact ⟨j + 1, by omega, by go_num, HR.out, HB.out⟩
      case measure => simp [intOf]; omega
    · obtain rfl : j = 4 := by omega
      rw [show l.length + 4 - 4 = l.length by omega, show (four t).take 4 = four t from rfl] at hr
      have hfit : 4 + l.length ≤ (four t ++ List.replicate l.length (0 : UInt8)).length := by simp [four]; omega
      have hfin : (four t ++ List.replicate l.length (0 : UInt8)).take 4 ++ (l ++ (four t ++ List.replicate l.length (0 : UInt8)).drop (4 + l.length)) = sealed l := by
        rw [sealed, ← HT.out, List.take_append_of_le_length (by simp [four]), show (four t).take 4 = four t from rfl, List.drop_eq_nil_of_le (by simp [four]; omega), List.append_nil]
      have hle : (sealed l).length = l.length + 4 := by simp [sealed, four]
      have hrv : RdB wr g (.slice A l.length c) l := by have := HV.out; rw [← HG.out] at this; exact this.below hb (Nat.le_refl _)
      have HR := Lib.hid hr
      have HB := Lib.hid hb
      have HF := Lib.hid hfin
      have HL := Lib.hid hle
      have HRV := Lib.hid hrv
      clear hr hb hfin hle hrv
      by_cases hz : l = []
      · subst hz
        go_wp2_with (refine wpList_copyB rfl (.tmp 25) (.tmp 26) rfl g 4 _ _ (four t ++ List.replicate ([] : List UInt8).length 0) [] _ g rfl ?c1 rfl HRV.out HR.out hfit g w1 HB.out (Nat.le_refl _) ?c2)
        case c1 => intro h; simp at h
        intro w4 hr4 hb4
        go_wp2_with fail
        go_ret
        exact ⟨by rw [HL.out, ← HG.out]; rfl, by rw [← HG.out, ← HF.out]; simpa using hr4.out, by rw [← HG.out]; exact hb4⟩
      · go_wp2_with (with_reducible show wpList _ _ _ (⟨some 27, _, _, _, _, _⟩ :: _) _ _; go_must (refine wpList_copyB rfl (.tmp 25) (.tmp 26) rfl g 4 (some ⟨g, 4, none⟩) _ (four t ++ List.replicate l.length 0) l (.slice A l.length c) g rfl ?d1 rfl HRV.out HR.out hfit g w1 HB.out (Nat.le_refl _) ?d2))
        intro w4 hr4 hb4
        go_wp2_with fail
        go_ret
        exact ⟨by rw [HL.out, ← HG.out]; rfl, by rw [← HG.out, ← HF.out]; simpa using hr4.out, by rw [← HG.out]; exact hb4⟩
end Go.Proofs.Ythoheikbpihflaa
namespace Go.Proofs.Ythoheikbpihflaa
open Go.RowKit

/-- what Open answers: the bytes, and the error's number -/
def openAns (l : List UInt8) : List UInt8 × Int :=
  if l.length < 4 then ([], 3) else if val (l.take 4) = sum (l.drop 4) then (l.drop 4, 0) else ([], 2)

set_option maxRecDepth 100000 in
theorem openAns_sealed (l : List UInt8) : openAns (sealed l) = (l, 0) := by
  unfold openAns sealed
  rw [if_neg (by simp [four]), show (four (sum l) ++ l).take 4 = four (sum l) from rfl, show (four (sum l) ++ l).drop 4 = l from rfl, val_four (sum_lt l), if_pos rfl]

set_option maxRecDepth 100000 in
theorem RdB.tail {w : World} {B b o c : Nat} {p r : List UInt8} (h : RdB w B (.slice (some ⟨b, o, none⟩) (p ++ r).length c) (p ++ r)) (hp : p.length = 4) (c' : Nat) (hc : r.length ≤ c') : RdB w B (.slice (some ⟨b, o + 4, none⟩) r.length c') r := by
  have := Rd.drop (k := 1) h 4 c' (by simp [hp]) (by simp [hp]; omega) (some ⟨b, o + 4, none⟩) (fun _ => by simp [Addr.add])
  rw [show (p ++ r).drop 4 = r by rw [← hp]; simp, show (p ++ r).length - 4 = r.length by simp [hp]] at this
  exact this

set_option maxHeartbeats 1000000 in
set_option maxRecDepth 100000 in
theorem open_any (l : List UInt8) (v : Value) (w : World) (hv : RdB w w.heap.size v l) (hl : l.length ≤ 140737488355328) : Calls Try.prog 46 #[v] w fun e w' => ∃ v', e = .returned (.tuple #[v', .int .i64 (openAns l).2]) ∧ RdB w' w'.heap.size v' (openAns l).1 ∧ Below w.heap.size w w' := by
  by_cases h4 : l.length < 4
  · obtain ⟨A, c, rfl, hc, _⟩ := hv.at
    rw [show openAns l = ([], 3) by rw [openAns, if_pos h4]]
    clear hv
    go_enter Try.func46, Try.ntmps46
    go_wp2_with fail
    go_ret2
    exact ⟨_, rfl, Rd.nil _ _, Below.refl _ _⟩
  · obtain ⟨p, r, rfl, hp⟩ : ∃ p r, l = p ++ r ∧ p.length = 4 := ⟨l.take 4, l.drop 4, by simp, by simp; omega⟩
    have hah := ahead_any (p ++ r) (by omega) v w _ hv
    obtain ⟨A, c, rfl, hc, hi⟩ := hv.at
    obtain ⟨b, o, rfl, hbB, _⟩ := hi 0 (by simp [hp]; omega)
    clear hi
    obtain ⟨c', rfl⟩ : ∃ c', c = c' + 4 := ⟨c - 4, by simp [hp] at hc; omega⟩
    have hlen : (p ++ r).length = r.length + 4 := by simp [hp]; omega
    have htl := hv.tail hp c' (by simp [hp] at hc; omega)
    rw [show (p ++ r).take 4 = p by rw [← hp]; simp] at hah
    have hans : openAns (p ++ r) = if val p = sum r then (r, 0) else ([], 2) := by
      rw [openAns, if_neg h4, show (p ++ r).take 4 = p by rw [← hp]; simp, show (p ++ r).drop 4 = r by rw [← hp]; simp]
    rw [hans]
    rw [hlen] at hah hv hc hl ⊢
    clear hans hlen h4
    obtain ⟨x, hx⟩ : ∃ x, x = val p := ⟨_, rfl⟩
    rw [← hx] at hah ⊢
    clear hx
    have hcr : r.length ≤ c' := by omega
    have HA := Lib.hid hah; clear hah
    have HT := Lib.hid htl
    have HV := Lib.hid hv; clear hv
    obtain ⟨tp, htp⟩ : ∃ tp, tp = Value.slice (if c' = 0 then some ⟨b, o, none⟩ else some ⟨b, o + 4, none⟩) r.length c' := ⟨_, rfl⟩
    have hrt : RdB w w.heap.size tp r := by
      subst htp
      split
      · have : r = [] := List.eq_nil_of_length_eq_zero (by omega)
        subst this
        exact Rd.none_ _ _ _ _
      · exact HT.out
    have hsm := sum_any r tp w _ hrt (by omega)
    have HRT := Lib.hid hrt; clear hrt
    have HS := Lib.hid hsm; clear hsm
    have HX := Lib.hid htp
    clear htp HT
    by_cases hxs : x = sum r
    · rw [if_pos hxs]
      rw [← hxs] at HS
      clear hxs
      by_cases hc0 : c' = 0
      · have hr0 : r = [] := List.eq_nil_of_length_eq_zero (by omega)
        subst hc0 hr0
        have htp := HX.out
        simp only [if_true] at htp
        subst htp
        go_enter Try.func46, Try.ntmps46
        go_wp2_with fail
        refine HA.out.mono ?_
        rintro e w1 ⟨rfl, rfl⟩
        go_wp2_with fail
        refine HS.out.mono ?_
        rintro e w2 ⟨rfl, rfl⟩
        go_wp2_with (refine wpList_makeB rfl _ _ rfl 0 ?pa ?pb (by omega) ?pc)
        case pa => rfl
        case pb => rfl
        intro w3 hr3 hb3
        have hrt3 : RdB w3 w2.heap.size (.slice (some ⟨b, o, none⟩) 0 0) ([] : List UInt8) := HRT.out.below hb3 (Nat.le_refl _)
        have HR3 := Lib.hid hr3; clear hr3
        have HRT3 := Lib.hid hrt3; clear hrt3
        have HB3 := Lib.hid hb3; clear hb3
        go_wp2_with (with_reducible show wpList _ _ _ (⟨some 21, _, _, _, _, _⟩ :: _) _ _; go_must (refine wpList_copyB rfl (.tmp 19) (.tmp 20) rfl w2.heap.size 0 (some ⟨w2.heap.size, 0, none⟩) _ ([] : List UInt8) ([] : List UInt8) (.slice (some ⟨b, o, none⟩) 0 0) w2.heap.size rfl (fun _ => rfl) rfl HRT3.out HR3.out (by simp) w2.heap.size w2 HB3.out (Nat.le_refl _) ?pd))
        intro w4 hr4 hb4
        go_wp2_with fail
        go_ret2
        have hr5 : RowB w4 w2.heap.size ([] : List UInt8) := by simpa using hr4.out
        exact ⟨_, rfl, hr5.rd 0 0 _ rfl (Nat.le_refl _), hb4⟩
      · have htp := HX.out
        rw [if_neg hc0] at htp
        subst htp
        go_enter Try.func46, Try.ntmps46
        go_wp2_with fail
        refine HA.out.mono ?_
        rintro e w1 ⟨rfl, rfl⟩
        go_wp2_with fail
        refine HS.out.mono ?_
        rintro e w2 ⟨rfl, rfl⟩
        go_wp2_with (refine wpList_makeB rfl _ _ rfl r.length ?qa ?qb (by omega) ?qc)
        case qa => rfl
        case qb => rfl
        intro w3 hr3 hb3
        have hrt3 : RdB w3 w2.heap.size (.slice (some ⟨b, o + 4, none⟩) r.length c') r := HRT.out.below hb3 (Nat.le_refl _)
        have HR3 := Lib.hid hr3; clear hr3
        have HRT3 := Lib.hid hrt3; clear hrt3
        have HB3 := Lib.hid hb3; clear hb3
        go_wp2_with (with_reducible show wpList _ _ _ (⟨some 21, _, _, _, _, _⟩ :: _) _ _; go_must (refine wpList_copyB rfl (.tmp 19) (.tmp 20) rfl w2.heap.size 0 (some ⟨w2.heap.size, 0, none⟩) _ (List.replicate r.length 0 : List UInt8) r (.slice (some ⟨b, o + 4, none⟩) r.length c') w2.heap.size rfl (fun _ => rfl) rfl HRT3.out HR3.out (by simp) w2.heap.size w2 HB3.out (Nat.le_refl _) ?qd))
        intro w4 hr4 hb4
        go_wp2_with fail
        go_ret2
        have hr5 : RowB w4 w2.heap.size r := by simpa using hr4.out
        exact ⟨_, rfl, hr5.rd 0 r.length _ rfl (Nat.le_refl _), hb4⟩
    · rw [if_neg hxs]
      obtain ⟨y, hy⟩ : ∃ y, y = sum r := ⟨_, rfl⟩
      rw [← hy] at HS hxs
      clear hy
      by_cases hc0 : c' = 0
      · have hr0 : r = [] := List.eq_nil_of_length_eq_zero (by omega)
        subst hc0 hr0
        have htp := HX.out
        simp only [if_true] at htp
        subst htp
        go_enter Try.func46, Try.ntmps46
        go_wp2_with fail
        refine HA.out.mono ?_
        rintro e w1 ⟨rfl, rfl⟩
        go_wp2_with fail
        refine HS.out.mono ?_
        rintro e w2 ⟨rfl, rfl⟩
        go_wp2_with fail
        go_ret2
        exact ⟨_, rfl, Rd.nil _ _, Below.refl _ _⟩
      · have htp := HX.out
        rw [if_neg hc0] at htp
        subst htp
        go_enter Try.func46, Try.ntmps46
        go_wp2_with fail
        refine HA.out.mono ?_
        rintro e w1 ⟨rfl, rfl⟩
        go_wp2_with fail
        refine HS.out.mono ?_
        rintro e w2 ⟨rfl, rfl⟩
        go_wp2_with fail
        go_ret2
        exact ⟨_, rfl, Rd.nil _ _, Below.refl _ _⟩
end Go.Proofs.Ythoheikbpihflaa
