/- Numbers as bytes of seven bits each, as plain lists: laid, read back, read from any bytes. What the reference's Put and Num answer. A text's bytes appended to a slice of the call's own. What the reference's PutText answers. What the reference's Num answers. Readable ints, for the texts of code. What the reference's Nums, Split and Ints answer. Frames as plain data: what is laid, what is read; the one undoes the other. Blocks that are known whole: a struct behind a pointer, a variable of the call's own. Appends that say what else they leave. The writer: what its calls leave. The bits of numbers as plain arithmetic. The writer's numbers and texts; what PutNum, PutText and Nums answer. The frame layer's writer: what its calls leave. -/
import Derived.Test.YtmakgjokadcfjaaFad
import Derived.Test.YtmakgjokadcfjaaFab
import Derived.Test.YtmakgjokadcfjaaFaa
import Derived.Lib.AppendStr
import Derived.Lib.EndianBits
namespace Go.Proofs.Ytmakgjokadcfjaa

theorem u8_ofNat {x : Nat} (h : x < 256) : (UInt8.ofNat x).toNat = x := by simp; omega

/-- a number's bytes -/
def enc (n : Nat) : List UInt8 := if n > 127 then UInt8.ofNat (128 + n % 128) :: enc (n / 128) else [UInt8.ofNat n]
decreasing_by omega
theorem enc_big {n : Nat} (h : n > 127) : enc n = UInt8.ofNat (128 + n % 128) :: enc (n / 128) := by rw [enc, if_pos h]
theorem enc_small {n : Nat} (h : n ≤ 127) : enc n = [UInt8.ofNat n] := by rw [enc, if_neg (by omega)]
theorem enc_ne (n : Nat) : enc n ≠ [] := by
  rw [enc]; split <;> simp
theorem enc_pos (n : Nat) : 1 ≤ (enc n).length := by
  have := enc_ne n
  cases h : enc n with
  | nil => exact absurd h this
  | cons => simp
/-- how many bytes a number has -/
theorem enc_len : ∀ (k n : Nat), n < 128 ^ (k + 1) → (enc n).length ≤ k + 1
  | 0, n, h => by rw [enc_small (by omega)]; simp
  | k + 1, n, h => by
    by_cases hn : n > 127
    · rw [enc_big hn, List.length_cons]
      have := enc_len k (n / 128) (by rw [Nat.pow_succ] at h; omega)
      omega
    · rw [enc_small (by omega)]; simp
theorem enc_len9 {n : Nat} (h : n < 9223372036854775808) : (enc n).length ≤ 9 := enc_len 8 n (by omega)
theorem enc_mono : ∀ (n m : Nat), n ≤ m → (enc n).length ≤ (enc m).length := by
  intro n
  induction n using Nat.strongRecOn with
  | ind n ih =>
    intro m hm
    by_cases hn : n > 127
    · rw [enc_big hn, enc_big (n := m) (by omega), List.length_cons, List.length_cons]
      have := ih (n / 128) (by omega) (m / 128) (by omega)
      omega
    · rw [enc_small (by omega)]
      exact enc_pos m

/-- what the reading of a number answers, behind i bytes of it: the number, how many bytes, the error -/
def numGo : Nat → Nat → Nat → List UInt8 → Nat × Nat × Nat
  | i, _, _, [] => if i ≥ 9 then (0, 0, 2) else (0, 0, 3)
  | i, n, t, c :: r => if i ≥ 9 then (0, 0, 2) else
    if c.toNat < 128 then (if c.toNat = 0 ∧ i > 0 then (0, 0, 2) else (n + c.toNat % 128 * t, i + 1, 0)) else numGo (i + 1) (n + c.toNat % 128 * t) (t * 128) r
def numAns (l : List UInt8) : Nat × Nat × Nat := numGo 0 0 1 l

/-- a number that was laid comes back, whatever stands behind -/
theorem numGo_enc (s : List UInt8) : ∀ (n i a t : Nat), i + (enc n).length ≤ 9 → (i > 0 → n > 0) → numGo i a t (enc n ++ s) = (a + n * t, i + (enc n).length, 0) := by
  intro n
  induction n using Nat.strongRecOn with
  | ind n ih =>
    intro i a t hi h0
    by_cases hn : n > 127
    · rw [enc_big hn, List.length_cons] at hi
      rw [enc_big hn, List.cons_append, numGo, if_neg (by omega), u8_ofNat (by omega), if_neg (by omega), ih (n / 128) (by omega) (i + 1) _ _ (by omega) (by omega), List.length_cons]
      rw [show (128 + n % 128) % 128 = n % 128 by omega]
      have e : n * t = n % 128 * t + n / 128 * (t * 128) := by
        conv => lhs; rw [← Nat.mod_add_div n 128]
        rw [Nat.add_mul]
        congr 1
        rw [Nat.mul_comm 128, Nat.mul_assoc, Nat.mul_comm 128 t]
      rw [e]
      simp only [Prod.mk.injEq, and_true]
      omega
    · rw [enc_small (by omega)] at hi ⊢
      simp only [List.length_singleton] at hi ⊢
      rw [List.singleton_append, numGo, if_neg (by omega), u8_ofNat (by omega), if_pos (by omega), if_neg (by omega), show n % 128 = n by omega]
theorem numAns_enc {n : Nat} (h : n < 9223372036854775808) (s : List UInt8) : numAns (enc n ++ s) = (n, (enc n).length, 0) := by
  have := numGo_enc s n 0 0 1 (by have := enc_len9 h; omega) (by omega)
  simpa [numAns] using this
/-- cut off, it is told to be -/
theorem numGo_cut : ∀ (n i a t k : Nat), i + (enc n).length ≤ 9 → k < (enc n).length → numGo i a t ((enc n).take k) = (0, 0, 3) := by
  intro n
  induction n using Nat.strongRecOn with
  | ind n ih =>
    intro i a t k hi hk
    match k with
    | 0 => rw [List.take_zero, numGo, if_neg (by have := enc_pos n; omega)]
    | k + 1 =>
      by_cases hn : n > 127
      · rw [enc_big hn, List.length_cons] at hi hk
        rw [enc_big hn, List.take_succ_cons, numGo, if_neg (by omega), u8_ofNat (by omega), if_neg (by omega)]
        exact ih (n / 128) (by omega) _ _ _ _ (by omega) (by omega)
      · rw [enc_small (by omega)] at hk
        simp at hk
theorem numAns_cut {n k : Nat} (h : n < 9223372036854775808) (hk : k < (enc n).length) : numAns ((enc n).take k) = (0, 0, 3) :=
  numGo_cut n 0 0 1 k (by have := enc_len9 h; omega) hk

/-- bytes that are read as a number are that number's bytes -/
theorem numGo_once : ∀ (l : List UInt8) (i a t m u : Nat), numGo i a t l = (m, u, 0) → ∃ n, m = a + n * t ∧ u = i + (enc n).length ∧ u ≤ 9 ∧ (i > 0 → n > 0) ∧ ∃ s, l = enc n ++ s
  | [], i, a, t, m, u, h => by
    rw [numGo] at h
    split at h <;> simp at h
  | c :: r, i, a, t, m, u, h => by
    have hc : c.toNat < 256 := c.toNat_lt
    rw [numGo] at h
    by_cases hi : i ≥ 9
    · rw [if_pos hi] at h; simp at h
    · rw [if_neg hi] at h
      by_cases hs : c.toNat < 128
      · rw [if_pos hs] at h
        by_cases hz : c.toNat = 0 ∧ i > 0
        · rw [if_pos hz] at h; simp at h
        · rw [if_neg hz] at h
          simp only [Prod.mk.injEq, and_true] at h
          refine ⟨c.toNat, by rw [← h.1]; congr 2; omega, ?_, by omega, by omega, r, ?_⟩
          · rw [enc_small (by omega)]; simp; omega
          · rw [enc_small (by omega)]; simp
      · rw [if_neg hs] at h
        obtain ⟨n, h1, h2, h3, h4, s, rfl⟩ := numGo_once r _ _ _ _ _ h
        have hn := h4 (by omega)
        have hb : c.toNat % 128 + 128 * n > 127 := by omega
        refine ⟨c.toNat % 128 + 128 * n, ?_, ?_, h3, by omega, s, ?_⟩
        · rw [h1, Nat.add_mul, Nat.add_assoc]
          congr 2
          rw [Nat.mul_comm t, ← Nat.mul_assoc, Nat.mul_comm n]
        · rw [h2, enc_big hb, List.length_cons, show (c.toNat % 128 + 128 * n) / 128 = n by omega]
          omega
        · rw [enc_big hb, show (c.toNat % 128 + 128 * n) / 128 = n by omega, show 128 + (c.toNat % 128 + 128 * n) % 128 = c.toNat by omega]
          simp
theorem numAns_once {l : List UInt8} {m u : Nat} (h : numAns l = (m, u, 0)) : u = (enc m).length ∧ u ≤ 9 ∧ 1 ≤ u ∧ ∃ s, l = enc m ++ s := by
  obtain ⟨n, h1, h2, h3, _, s, rfl⟩ := numGo_once l _ _ _ _ _ h
  simp only [Nat.zero_add, Nat.mul_one] at h1 h2
  subst h1
  have := enc_pos m
  exact ⟨h2, h3, by omega, s, rfl⟩
/-- what is answered beside an error -/
theorem numGo_err : ∀ (l : List UInt8) (i a t : Nat), (numGo i a t l).2.2 = 0 ∨ numGo i a t l = (0, 0, 2) ∨ numGo i a t l = (0, 0, 3)
  | [], i, a, t => by rw [numGo]; split <;> simp
  | c :: r, i, a, t => by
    rw [numGo]
    split
    · simp
    · split
      · split <;> simp
      · exact numGo_err r _ _ _
theorem numAns_err (l : List UInt8) : (numAns l).2.2 = 0 ∨ numAns l = (0, 0, 2) ∨ numAns l = (0, 0, 3) := numGo_err l 0 0 1
/-- the number fits -/
theorem enc_lt {n : Nat} (h : (enc n).length ≤ 9) : n < 9223372036854775808 := by
  have key : ∀ (k n : Nat), (enc n).length ≤ k + 1 → n < 128 ^ (k + 1) := by
    intro k
    induction k with
    | zero =>
      intro n h
      by_cases hn : n > 127
      · rw [enc_big hn, List.length_cons] at h
        have := enc_pos (n / 128); omega
      · omega
    | succ k ih =>
      intro n h
      by_cases hn : n > 127
      · rw [enc_big hn, List.length_cons] at h
        have := ih (n / 128) (by omega)
        rw [Nat.pow_succ]; omega
      · have : 1 ≤ 128 ^ (k + 1) := Nat.pow_pos (by decide)
        rw [Nat.pow_succ]; omega
  exact key 8 n (by omega)
theorem enc_inj {n m : Nat} (hn : n < 9223372036854775808) (h : enc n = enc m) : n = m := by
  have h9 := enc_len9 hn
  have hm := enc_lt (n := m) (by rw [← h]; exact h9)
  have a := numAns_enc hn []
  have b := numAns_enc hm []
  rw [h, b] at a
  simpa using (congrArg (·.1) a).symm
end Go.Proofs.Ytmakgjokadcfjaa
namespace Go.Proofs.Ytmakgjokadcfjaa
open Go.RowKit

end Go.Proofs.Ytmakgjokadcfjaa
namespace Go.Proofs.Ytmakgjokadcfjaa
open Go.RowKit

set_option maxRecDepth 100000 in
theorem strCells_bytes (s : ByteArray) : Lib.strCells s = cellsB s.data.toList := rfl
set_option maxRecDepth 100000 in
theorem data_len (s : ByteArray) : s.data.toList.length = s.size := by simp

set_option maxRecDepth 100000 in
theorem run_append_str (w : World) (base : Nat) (ty : TypeId) (v : Value) (l : List UInt8) (ho : OwnB w base v l) (s : ByteArray) (hlen : l.length + s.size ≤ 225179981368000) (hs : s.size ≤ 140737488355328) (hb : base ≤ w.heap.size) :
    ∃ v' w', (Builtin.append_ #[63, 9] ty #[v, .string s]).run Try.prog w = .ok v' w' ∧ OwnB w' base v' (l ++ s.data.toList) ∧ w.grownBy w' v.ownBlock := by
  obtain ⟨i0, hi, hz0, hz1, hz2⟩ := info_parts info_u8
  have small : l.length + s.size ≤ 140737488355328 → ∃ v' w', (Builtin.append_ #[63, 9] ty #[v, .string s]).run Try.prog w = .ok v' w' ∧ OwnB w' base v' (l ++ s.data.toList) ∧ w.grownBy w' v.ownBlock := fun hle => by
    obtain ⟨v', w', h1, h2, h3, _⟩ := Lib.run_append_own_string (P := Try.prog) w base 63 9 ty 5 i0 Try.underlying63 Try.underlying9 hi hz0 hz1 hz2 v l.length _ ho s (by unfold maxLen; omega) hle hb
    refine ⟨v', w', h1, ?_, h3⟩
    show w'.ownsRow base _ 1 v' _ _
    rw [List.length_append, data_len, flat_cellsB, cellsB_append, ← strCells_bytes, ← flat_cellsB]
    exact h2
  by_cases hle : l.length + s.size ≤ 140737488355328
  · exact small hle
  rcases ho.form with ⟨_, h0⟩ | ⟨g, cap, rfl, hbg, hglt, hnc⟩
  · rw [h0] at hle; simp at hle; omega
  have hfl : flatG byteEnc (l ++ s.data.toList) = cellsB l ++ Lib.strCells s := by rw [flat_cellsB, cellsB_append, strCells_bytes]
  have hll : (l ++ s.data.toList).length = l.length + s.size := by rw [List.length_append, data_len]
  have hcl := cellsB_len l
  have hsl := Lib.strCells_length s
  rcases ho.2 with ⟨h', _⟩ | ⟨g', cap', cur, h', _, hg, _, hcm, hcs, htake⟩
  · simp at h'
  simp only [Value.slice.injEq, Option.some.injEq, Addr.mk.injEq, and_true, true_and] at h'
  obtain ⟨rfl, rfl⟩ := h'
  rw [flat_cellsB, Nat.mul_one] at htake
  rw [Nat.mul_one] at hcs
  by_cases hroom : l.length + s.size ≤ cap
  · have hr := Lib.run_append_room_string (P := Try.prog) w 63 9 ty 5 i0 Try.underlying63 Try.underlying9 hi hz1 g l.length cap cur hg s hroom (by omega)
    refine ⟨_, _, hr, ⟨by rw [hfl, List.length_append, hcl, hsl, hll, Nat.mul_one], .inr ⟨g, cap, _, by rw [hll], hbg, setRow_heap w g cur _ _ _ hg, by rw [hll]; exact hroom, hcm, ?_, ?_⟩⟩, ⟨rfl, rfl, rfl, by simp, fun k _ hk => setRow_other w g k _ (fun e => hk (by simp [Value.ownBlock, e]))⟩⟩
    · simp only [List.size_toArray, List.length_append, List.length_take, List.length_drop, Array.length_toList, hsl]
      omega
    · rw [htake, hfl, hll, Nat.mul_one]
      exact List.take_left' (by rw [List.length_append, hcl, hsl])
  · have hold : ∀ j u, (cellsB l)[j]? = some u → w.cell? ((⟨g, 0, none⟩ : Addr).add j) = some u := by
      have := World.ownsRow.cells ho (g := g) rfl
      rwa [flat_cellsB] at this
    have hr := Lib.run_append_grow_string (P := Try.prog) w 63 9 ty 5 i0 _ Try.underlying63 Try.underlying9 hi hz0 ⟨g, 0, none⟩ l.length cap (cellsB l) (by rw [hz1, hcl, Nat.mul_one]) hold s (by omega) (by omega) (growslice_fits_wide (by omega) (by rw [hz2]; omega))
    have hge := grownCap_ge w (l.length + s.size) cap 5
    have hgm := grownCap_le_maxLen w (l.length + s.size) cap 5 (by unfold maxLen; omega)
    refine ⟨_, _, hr, ⟨by rw [hfl, List.length_append, hcl, hsl, hll, Nat.mul_one], .inr ⟨w.heap.size, _, _, by rw [hll], hb, heap_alloc_new w.drew _, by rw [hll]; exact hge, hgm, ?_, ?_⟩⟩, ⟨rfl, rfl, rfl, by simp, fun k hk _ => heap_alloc_old w.drew _ hk⟩⟩
    · have hz : (Value.int IntKind.u8 0).cells.size = 1 := rfl
      simp only [Array.size_append, List.size_toArray, size_zeroCells, hz, hcl, hsl]
      omega
    · rw [hfl, hll, Nat.mul_one]
      simp only [Array.toList_append]
      exact List.take_left' (by rw [List.length_append, hcl, hsl])

set_option maxRecDepth 100000 in
theorem wpList_addStr {ops : Array Oper} {rest : List Oper} {o : Oper} {a : Act} {Q : Exit → Act → World → Prop} {w : World} (hw : Region.wanted o (yielded ops a.tmps) = true) (sl x : Operand)
    (ho : o.op = .call { callee := .builtin .append, args := #[sl, x], argTypes := #[63, 9] })
    (base : Nat) (v : Value) (l : List UInt8) (hs : a.eval sl = v) (hown : OwnB w base v l) (s : ByteArray) (hx : a.eval x = .string s)
    (hlen : l.length + s.size ≤ 225179981368000) (hs47 : s.size ≤ 140737488355328) (hbase : base ≤ w.heap.size) (C : Nat) (w0 : World) (hb : Below C w0 w) (hC : C ≤ base)
    (h : ∀ A' c' w', Hid (OwnB w' base (.slice A' (l ++ s.data.toList).length c') (l ++ s.data.toList)) → Hid (Below C w0 w') → Hid (base ≤ w'.heap.size) → wpList Try.prog ops Q rest (a.put o.dst (.slice A' (l ++ s.data.toList).length c')) w') : wpList Try.prog ops Q (o :: rest) a w := by
  refine BigFrame.wpList_want hw fun K hK => ?_
  obtain ⟨v', w', hr, h2, h3⟩ := run_append_str w base o.type v l hown s hlen hs47 hbase
  have hv : ∃ A' c', v' = .slice A' (l ++ s.data.toList).length c' := by
    rcases h2.form with ⟨hv, h0⟩ | ⟨g, cap, hv, _⟩
    · exact ⟨none, 0, by rw [h0]; exact hv⟩
    · exact ⟨_, _, hv⟩
  obtain ⟨A', c', rfl⟩ := hv
  unfold Oper.wp execOp
  simp only [ho, resolve, invoke, builtin, Sem.run_bind, Sem.run_pure, Result.andThen_ok, List.map_toArray, List.map_cons, List.map_nil, hs, hx, hr]
  exact hK _ _ (h A' c' w' (Lib.hid h2) (Lib.hid (hown.grown hb h3 hC (Nat.le_trans hC hbase))) (Lib.hid (Nat.le_trans hbase h3.size)))
end Go.Proofs.Ytmakgjokadcfjaa
namespace Go.Proofs.Ytmakgjokadcfjaa
open Go.RowKit

/-- a text's bytes -/
def encT (s : List UInt8) : List UInt8 := enc s.length ++ s

/-- what PutNum and PutText answer: the bytes, and the error -/
def putAns (l : List UInt8) (n : Int) : List UInt8 × Int := if n < 0 then ([], 5) else (l ++ enc n.toNat, 0)
def putTAns (l : List UInt8) (s : ByteArray) : List UInt8 × Int := if s.size > 65536 then ([], 6) else (l ++ encT s.data.toList, 0)

end Go.Proofs.Ytmakgjokadcfjaa
namespace Go.Proofs.Ytmakgjokadcfjaa
open Go.RowKit

/-- three results: a number, how many bytes, the error -/
def numVal (x : Nat × Nat × Nat) : Value := .tuple #[.int .i64 (x.1 : Int), .int .i64 (x.2.1 : Int), .int .i64 (x.2.2 : Int)]

end Go.Proofs.Ytmakgjokadcfjaa

namespace Go.Proofs.Ytmakgjokadcfjaa
open Go.RowKit

/-- numbers' bytes, one behind the other -/
def encs (l : List Int) : List UInt8 := l.flatMap fun n => enc n.toNat
set_option maxRecDepth 100000 in
theorem encs_append (a b : List Int) : encs (a ++ b) = encs a ++ encs b := by simp [encs]
set_option maxRecDepth 100000 in
theorem encs_len (l : List Int) (h : ∀ n ∈ l, n < 9223372036854775808) : (encs l).length ≤ l.length * 9 := by
  induction l with
  | nil => simp [encs]
  | cons x r ih =>
    have h1 := ih (fun n hn => h n (by simp [hn]))
    have h2 := enc_len9 (n := x.toNat) (by have := h x (by simp); omega)
    have : encs (x :: r) = enc x.toNat ++ encs r := rfl
    rw [this, List.length_append, List.length_cons]
    omega
/-- what Nums answers -/
def numsAns (l : List Int) : List UInt8 × Int := if l.length > 4096 then ([], 6) else if l.any (· < 0) then ([], 5) else (encs l, 0)
end Go.Proofs.Ytmakgjokadcfjaa
namespace Go.Proofs.Ytmakgjokadcfjaa
open Go.RowKit

/-- how many, and each of them -/
def listB {α : Type} (f : α → List UInt8) (l : List α) : List UInt8 := enc l.length ++ l.flatMap f

def spanB (s : K × K) : List UInt8 := encT s.1.data.toList ++ encT s.2.data.toList
def chgB (c : Chg) : List UInt8 := enc c.kind.toNat ++ (encT c.key.data.toList ++ encT c.val.data.toList)
theorem allAns_all : ∀ {l : List Chg}, allAns l = 0 → ∀ c ∈ l, checkAns c = 0
  | [], _, c, hc => by simp at hc
  | x :: r, h, c, hc => by
    rw [allAns] at h
    split at h
    · rcases List.mem_cons.1 hc with rfl | hc
      · assumption
      · exact allAns_all h c hc
    · exact absurd h (by assumption)

def txnB (t : Txn) : List UInt8 := enc t.read.toNat ++ (listB spanB t.reads ++ listB chgB t.chgs)
end Go.Proofs.Ytmakgjokadcfjaa
namespace Go.Proofs.Ytmakgjokadcfjaa
open Go.RowKit

section
variable {w w' : World} {g : Nat} {t : TypeId} {cs : List Value}
end
section
variable {ops : Array Oper} {rest : List Oper} {o : Oper} {a : Act} {Q : Exit → Act → World → Prop} {w : World}
set_option maxRecDepth 100000 in
/-- bytes appended; what grew is told -/
theorem wpList_addBG (hgd : Region.wanted o (yielded ops a.tmps) = true) (s x : Operand)
    (ho : o.op = .call { callee := .builtin .append, args := #[s, x], argTypes := #[63, 63] })
    (base : Nat) (v : Value) (l : List UInt8) (hs : a.eval s = v) (hown : OwnB w base v l) (B : Nat) (v2 : Value) (p : List UInt8) (hx : a.eval x = v2) (hp : RdB w B v2 p)
    (hlen : l.length + p.length ≤ 225179981368000) (hbase : base ≤ w.heap.size)
    (h : ∀ A' c' w', Hid (OwnB w' base (.slice A' (l ++ p).length c') (l ++ p)) → Hid (w.grownBy w' v.ownBlock) → wpList Try.prog ops Q rest (a.put o.dst (.slice A' (l ++ p).length c')) w') : wpList Try.prog ops Q (o :: rest) a w := by
  obtain ⟨i0, hi, hz0, hz1, hz2⟩ := info_parts info_u8
  refine BigFrame.wpList_want hgd fun K hK => ?_
  refine wp_addAny (enc := byteEnc) (k := 1) 63 5 1 i0 _ Try.underlying63 hi hz0 hz1 hz2 rfl (by decide) byteEnc_len byteEnc_one s x ho base v l hs hown B v2 p hx hp (by unfold maxLen; omega) (by omega) hbase fun A' c' w' h1 h2 => ?_
  exact hK _ _ (h A' c' w' (Lib.hid h1) (Lib.hid h2))
set_option maxRecDepth 100000 in
/-- a text's bytes appended; what grew is told -/
theorem wpList_addStrG (hw : Region.wanted o (yielded ops a.tmps) = true) (sl x : Operand)
    (ho : o.op = .call { callee := .builtin .append, args := #[sl, x], argTypes := #[63, 9] })
    (base : Nat) (v : Value) (l : List UInt8) (hs : a.eval sl = v) (hown : OwnB w base v l) (s : ByteArray) (hx : a.eval x = .string s)
    (hlen : l.length + s.size ≤ 225179981368000) (hs47 : s.size ≤ 140737488355328) (hbase : base ≤ w.heap.size)
    (h : ∀ A' c' w', Hid (OwnB w' base (.slice A' (l ++ s.data.toList).length c') (l ++ s.data.toList)) → Hid (w.grownBy w' v.ownBlock) → wpList Try.prog ops Q rest (a.put o.dst (.slice A' (l ++ s.data.toList).length c')) w') : wpList Try.prog ops Q (o :: rest) a w := by
  refine BigFrame.wpList_want hw fun K hK => ?_
  obtain ⟨v', w', hr, h2, h3⟩ := run_append_str w base o.type v l hown s hlen hs47 hbase
  have hv : ∃ A' c', v' = .slice A' (l ++ s.data.toList).length c' := by
    rcases h2.form with ⟨hv, h0⟩ | ⟨g, cap, hv, _⟩
    · exact ⟨none, 0, by rw [h0]; exact hv⟩
    · exact ⟨_, _, hv⟩
  obtain ⟨A', c', rfl⟩ := hv
  unfold Oper.wp execOp
  simp only [ho, resolve, invoke, builtin, Sem.run_bind, Sem.run_pure, Result.andThen_ok, List.map_toArray, List.map_cons, List.map_nil, hs, hx, hr]
  exact hK _ _ (h A' c' w' (Lib.hid h2) (Lib.hid h3))
end
end Go.Proofs.Ytmakgjokadcfjaa
namespace Go.Proofs.Ytmakgjokadcfjaa
open Go.RowKit

/-- a writer at block p: what was written till now, and its error -/
def Wr (w : World) (base p : Nat) (l : List UInt8) (e : Int) : Prop :=
  ∃ A c, Whole w p 86 [.slice A l.length c, .int .i64 e] ∧ OwnB w base (.slice A l.length c) l ∧ base ≤ p ∧ base ≤ w.heap.size
set_option maxRecDepth 100000 in
theorem Wr.more {w w' : World} {base p B : Nat} {l : List UInt8} {e : Int} (h : Wr w base p l e) (hb : Below B w w') (hB : w.heap.size ≤ B) : Wr w' base p l e := by
  obtain ⟨A, c, hw, ho, hp, hs⟩ := h
  exact ⟨A, c, hw.below hb (Nat.lt_of_lt_of_le hw.size hB), ho.below hb hB, hp, Nat.le_trans hs hb.size⟩

set_option maxHeartbeats 1000000 in
set_option maxRecDepth 100000 in
theorem clone_any (l : List UInt8) (v : Value) (w : World) (hv : RdB w w.heap.size v l) (hl : l.length ≤ 140737488351232) :
    Calls Try.prog 51 #[v] w fun e w' => ∃ A c, e = .returned (.slice A l.length c) ∧ OwnB w' w.heap.size (.slice A l.length c) l ∧ Below w.heap.size w w' := by
  obtain ⟨A, c, rfl, hc, hi⟩ := hv.at
  have HV := Lib.hid hv; clear hv
  cases A with
  | none =>
    have hl0 : l = [] := by
      cases l with
      | nil => rfl
      | cons x r => obtain ⟨b, o, hA, _⟩ := hi 0 (by simp); cases hA
    subst hl0
    clear hi
    have hnil := fun W => Lib.run_eql_slice_nil (P := Try.prog) W 63 5 none 0 c 0 0 Try.underlying63
    go_enter Try.func51, Try.ntmps51
    go_wp2_with fail
    go_ret
    exact ⟨_, _, rfl, Own.nil _ _, Below.refl _ _⟩
  | some ad =>
    clear hi
    have hnil := fun W => Lib.run_eql_slice_nil (P := Try.prog) W 63 5 (some ad) l.length c 0 0 Try.underlying63
    go_enter Try.func51, Try.ntmps51
    go_wp2_with (at_builtin; go_must (refine wpList_addBG rfl _ _ rfl w.heap.size _ [] rfl (Own.empty _ _ (Nat.le_refl _)) w.heap.size _ l rfl (HV.out.below ((Below.refl _ _).alloc (Nat.le_refl _) _) (Nat.le_refl _)) (by simp; omega) (by simp) ?_))
    intro A' c' w' ho hg
    have HO := Lib.hid (show OwnB w' w.heap.size (.slice A' l.length c') l from ho.out)
    have HG := Lib.hid hg.out
    go_wp2_with fail
    go_ret
    exact ⟨A', c', rfl, HO.out, ((Below.refl _ w).alloc (Nat.le_refl _) _).grown HG.out (by simp) (by simp [Value.ownBlock])⟩

set_option maxHeartbeats 1000000 in
set_option maxRecDepth 100000 in
theorem behind_any (l : List UInt8) (v : Value) (w : World) (hv : RdB w w.heap.size v l) (hl : l.length ≤ 140737488351232) :
    Calls Try.prog 47 #[v] w fun e w' => ∃ p, e = .returned (.pointer (some ⟨p, 0, none⟩)) ∧ Wr w' w.heap.size p l 0 ∧ Below w.heap.size w w' := by
  have hc := clone_any l v w hv hl
  have HC := Lib.hid hc; clear hc
  clear hv
  go_enter Try.func47, Try.ntmps47
  go_wp2_with fail
  refine HC.out.mono ?_
  rintro e w1 ⟨A, c, rfl, ho, hb⟩
  have HO := Lib.hid ho; clear ho
  have HB := Lib.hid hb; clear hb
  go_wp2_with fail
  go_ret
  exact ⟨_, rfl, ⟨A, c, Whole.fresh _ _ [_, _], HO.out.alloc _, HB.out.size, by simp; exact Nat.le_succ_of_le HB.out.size⟩, HB.out.alloc HB.out.size _⟩

/-- the first error -/
def firstErr (e f : Int) : Int := if e = 0 then f else e
def IsZ (e : Int) : Prop := e = 0

set_option maxHeartbeats 1000000 in
set_option maxRecDepth 100000 in
theorem or_any (e f : Int) (g c : Nat) (w : World) (h0 : w.cell? ⟨g, 0, none⟩ = some (.int .i64 e)) (h1 : w.cell? ⟨g, 1, none⟩ = some (.int .i64 f)) :
    Calls Try.prog 54 #[.slice (some ⟨g, 0, none⟩) 2 c] w fun x w' => x = .returned (.int .i64 (firstErr e f)) ∧ w' = w := by
  obtain ⟨R, hR⟩ : ∃ R, R = firstErr e f := ⟨_, rfl⟩
  rw [← hR]
  unfold firstErr at hR
  have HR := Lib.hid hR; clear hR
  go_enter Try.func54, Try.ntmps54
  go_wp2_with fail
  go_loop [8] (fun kv => kv = .int .i64 0 ∨ (kv = .int .i64 1 ∧ IsZ e) ∨ (kv = .int .i64 2 ∧ IsZ e ∧ IsZ f)) (fun kv => 2 - (intOf kv).toNat)
  case atStart => exact .inl rfl
  case round =>
    rcases hrel with rfl | ⟨rfl, he⟩ | ⟨rfl, he, hf⟩
    · by_cases hz : e = 0
      · have HZ : IsZ e := hz
        subst hz
        go_wp2_with fail
        go_round
        case rel => exact .inr (.inl ⟨by go_num, HZ⟩)
        case measure => simp [intOf]
      · have hr := HR.out
        rw [if_neg hz] at hr
        have HR2 := Lib.hid hr; clear hr
        go_wp2_with fail
        go_ret
        exact ⟨by rw [HR2.out]; rfl, rfl⟩
    · have hr := HR.out
      rw [if_pos (show e = 0 from he)] at hr
      have HR2 := Lib.hid hr; clear hr
      by_cases hz : f = 0
      · have HZ : IsZ f := hz
        subst hz
        go_wp2_with fail
        go_round
        case rel => exact .inr (.inr ⟨by go_num, he, HZ⟩)
        case measure => simp [intOf]
      · go_wp2_with fail
        go_ret
        exact ⟨by rw [HR2.out]; rfl, rfl⟩
    · have hr := HR.out
      rw [if_pos (show e = 0 from he), show f = 0 from hf] at hr
      have HR2 := Lib.hid hr; clear hr
      go_wp2_with fail
      go_ret
      exact ⟨by rw [HR2.out]; rfl, rfl⟩

set_option maxHeartbeats 1000000 in
set_option maxRecDepth 100000 in
theorem wfail_any (base p : Nat) (l : List UInt8) (e f : Int) (w : World) (hw : Wr w base p l e) :
    Calls Try.prog 52 #[.pointer (some ⟨p, 0, none⟩), .int .i64 f] w fun x w' => x = .returned (.pointer (some ⟨p, 0, none⟩)) ∧ Wr w' base p l (firstErr e f) ∧ Below base w w' := by
  obtain ⟨A, c, hb, ho, hp, hs⟩ := hw
  have c0 := hb.cell 0 _ rfl
  have c1 := hb.cell 1 _ rfl
  have f1 := hb.frozen 1
  have hlt := hb.size
  have HB := Lib.hid hb; clear hb
  have HO := Lib.hid ho; clear ho
  go_enter Try.func52, Try.ntmps52
  go_wp2_with fail
  refine (or_any e f w.heap.size 2 _ (by go_simp) (by go_simp)).mono ?_
  rintro x w1 ⟨rfl, rfl⟩
  go_wp2_with fail
  go_ret
  refine ⟨rfl, ⟨A, c, (HB.out.put 1 _).alloc _, (HO.out.put HB.out (by decide) 1 _).alloc _, hp, by simp; omega⟩, ((Below.refl _ _).setCell hp _).alloc (by simpa using hs) _⟩

set_option maxHeartbeats 1000000 in
set_option maxRecDepth 100000 in
theorem wdoneO_any (base p : Nat) (l : List UInt8) (e : Int) (w : World) (hw : Wr w base p l e) :
    Calls Try.prog 49 #[.pointer (some ⟨p, 0, none⟩)] w fun x w' => ∃ v', x = .returned (.tuple #[v', .int .i64 e]) ∧ OwnB w' base v' (if e = 0 then l else []) ∧ Below base w w' := by
  obtain ⟨A, c, hb, ho, hp, hs⟩ := hw
  have c0 := hb.cell 0 _ rfl
  have c1 := hb.cell 1 _ rfl
  have hlt := hb.size
  have HO := Lib.hid ho; clear ho
  clear hb
  by_cases he : e = 0
  · subst he
    go_enter Try.func49, Try.ntmps49
    go_wp2_with fail
    go_ret2
    exact ⟨_, rfl, HO.out, Below.refl _ _⟩
  · rw [if_neg he]
    go_enter Try.func49, Try.ntmps49
    go_wp2_with fail
    refine wp_region_planB [(true, 0), (true, 1), (true, 2), (true, 3), (true, 4), (true, 5)] (by kernel_rfl) (by kernel_rfl) (fun _ _ d _ _ h => by cases d <;> exact h) ?_
    repeat (refine PlanB.take (v := ?_) rfl rfl ?_ ?_; rotate_left; (focus (intro W hW; have k1 := (hW.cell (p := ⟨p, 1, none⟩) hlt).trans c1; go_simp; (try with_reducible rfl); done)); (try simp only [Act.put, List.setIfInBounds_toArray, List.set_cons_zero, List.set_cons_succ]))
    simp only [PlanB]
    go_wp2_with fail
    go_ret2
    exact ⟨_, rfl, Own.nil _ _, (Below.refl _ _).drew⟩
theorem wdone_any (base p : Nat) (l : List UInt8) (e : Int) (w : World) (hw : Wr w base p l e) :
    Calls Try.prog 49 #[.pointer (some ⟨p, 0, none⟩)] w fun x w' => ∃ v', x = .returned (.tuple #[v', .int .i64 e]) ∧ RdB w' w'.heap.size v' (if e = 0 then l else []) ∧ Below base w w' := by
  refine (wdoneO_any base p l e w hw).mono ?_
  rintro x w' ⟨v', h1, h2, h3⟩
  exact ⟨v', h1, h2.rdB, h3⟩
end Go.Proofs.Ytmakgjokadcfjaa
namespace Go.Proofs.Ytmakgjokadcfjaa
theorem xor_nat (k : IntKind) (j : Nat) (hj : j ≤ k.bits) (hk : ∀ n : Int, 0 ≤ n → n < 2 ^ j → k.wrap n = n) (a b : Nat) (ha : a < 2 ^ j) (hb : b < 2 ^ j) : bits .xor k a b = ((a ^^^ b : Nat) : Int) := by
  have hp : 2 ^ j ≤ 2 ^ k.bits := Nat.pow_le_pow_right (by decide) hj
  have ha' : a % 2 ^ k.bits = a := Nat.mod_eq_of_lt (Nat.lt_of_lt_of_le ha hp)
  have hb' : b % 2 ^ k.bits = b := Nat.mod_eq_of_lt (Nat.lt_of_lt_of_le hb hp)
  simp only [bits, BitVec.ofInt_natCast, BitVec.toNat_xor, BitVec.toNat_ofNat, ha', hb']
  exact hk _ (Int.natCast_nonneg _) (by exact_mod_cast Nat.xor_lt_two_pow ha hb)
theorem xor32 {a b : Nat} (ha : a < 2 ^ 32) (hb : b < 2 ^ 32) : bits .xor .u32 (a : Int) (b : Int) = ((a ^^^ b : Nat) : Int) := xor_nat .u32 32 (by decide) wraps_u32 a b ha hb
theorem xor8 {a b : Nat} (ha : a < 2 ^ 8) (hb : b < 2 ^ 8) : bits .xor .u8 (a : Int) (b : Int) = ((a ^^^ b : Nat) : Int) := xor_nat .u8 8 (by decide) wraps_u8 a b ha hb
end Go.Proofs.Ytmakgjokadcfjaa
namespace Go.Proofs.Ytmakgjokadcfjaa
open Go.RowKit

set_option maxRecDepth 100000 in
theorem or128 : ∀ a : Fin 256, bits .or .u8 (a.val : Int) 128 = ((128 + a.val % 128 : Nat) : Int) := by decide +kernel
set_option maxRecDepth 100000 in
theorem Wr.size {w : World} {base p : Nat} {l : List UInt8} {e : Int} (h : Wr w base p l e) : p < w.heap.size := by
  obtain ⟨A, c, hb, _⟩ := h
  exact hb.size

set_option maxRecDepth 100000 in
theorem Wr.still {w w2 : World} {base p : Nat} {l : List UInt8} {A : Option Addr} {c : Nat} {e : Int} (hb : Whole w p 86 [.slice A l.length c, .int .i64 e]) (ho : OwnB w base (.slice A l.length c) l) (o : Obj) (hg : (w.alloc o).grownBy w2 (Value.slice A l.length c).ownBlock) :
    Whole w2 p 86 [.slice A l.length c, .int .i64 e] := (hb.alloc o).grown hg ((ho.alloc o).apart (hb.alloc o) (by decide))
set_option maxRecDepth 100000 in
theorem Wr.stored {w w2 wb : World} {base p : Nat} {l l2 : List UInt8} {A A2 : Option Addr} {c c2 : Nat} {e : Int} (hb : Whole w p 86 [.slice A l.length c, .int .i64 e]) (ho : OwnB w base (.slice A l.length c) l) (o : Obj) (hg : (w.alloc o).grownBy w2 (Value.slice A l.length c).ownBlock)
    (h2 : OwnB w2 base (.slice A2 l2.length c2) l2) (hs : base ≤ w.heap.size) (hp : base ≤ p) (hw : Below base wb w) :
    Wr (w2.setCell ⟨p, 0, none⟩ (.slice A2 l2.length c2)) base p l2 e ∧ Below base wb (w2.setCell ⟨p, 0, none⟩ (.slice A2 l2.length c2)) := by
  have hb2 := Wr.still hb ho o hg
  have hz : base ≤ (w.alloc o).heap.size := by simp; omega
  exact ⟨⟨A2, c2, hb2.put 0 _, h2.put hb2 (by decide) 0 _, hp, by have := hg.size; simp at this ⊢; omega⟩, ((ho.alloc o).grown (hw.alloc hs o) hg (Nat.le_refl _) hz).setCell hp _⟩

set_option maxHeartbeats 4000000 in
set_option maxRecDepth 100000 in
theorem wnum_any (n : Nat) (hn : n < 9223372036854775808) (base p : Nat) (l : List UInt8) (e : Int) (w : World) (hw : Wr w base p l e) (hl : l.length ≤ 225179981367000) :
    Calls Try.prog 48 #[.pointer (some ⟨p, 0, none⟩), .int .i64 (n : Int)] w fun x w' => x = .returned (.pointer (some ⟨p, 0, none⟩)) ∧ Wr w' base p (l ++ enc n) e ∧ Below base w w' := by
  have h9 := enc_len9 hn
  obtain ⟨R, hR⟩ : ∃ R, R = l ++ enc n := ⟨_, rfl⟩
  rw [← hR]
  have hRl : R.length ≤ 225179981367009 := by rw [hR, List.length_append]; omega
  have HW := Lib.hid hw; clear hw
  have HR := Lib.hid hR; clear hR h9
  go_enter Try.func48, Try.ntmps48
  go_wp2_with fail
  go_loopw [1] (fun nv wr => ∃ (m : Nat) (l' : List UInt8), m ≤ n ∧ nv = .int .i64 m ∧ Wr wr base p l' e ∧ R = l' ++ enc m ∧ Below base w wr) (fun nv _ => (intOf nv).toNat)
  case atStart => exact ⟨n, l, Nat.le_refl _, rfl, HW.out, HR.out, Below.refl _ _⟩
  case round =>
    obtain ⟨m, l', hm, rfl, ⟨A, c, hb, ho, hp, hs⟩, he, hbw⟩ := hrel
    have hlen : l'.length + (enc m).length = R.length := by rw [he, List.length_append]
    have hep := enc_pos m
    have hl' : l'.length + 1 ≤ 225179981368000 := by omega
    have c0 := hb.cell 0 _ rfl
    have f0 := hb.frozen 0
    have hlt := hb.size
    have HE := Lib.hid he; clear he
    have HO := Lib.hid ho; clear ho
    have HB := Lib.hid hb; clear hb
    have HBW := Lib.hid hbw; clear hbw
    clear hlen hep
    by_cases hlt : m > 127
    · obtain ⟨bt, hbt⟩ : ∃ bt, bt = UInt8.ofNat (128 + m % 128) := ⟨_, rfl⟩
      have HBT := Lib.hid hbt; clear hbt
      have hm2 : (128 : Int) ≤ (m : Int) := by omega
      have h1 : bits .or .u8 ((m : Int) % 256) 128 = (bt.toNat : Int) := by
        have := or128 ⟨m % 256, by omega⟩
        rw [HBT.out, u8_ofNat (by omega)]
        simp only [Int.natCast_emod] at this
        rw [show 128 + m % 128 = 128 + m % 256 % 128 by omega]
        exact this
      go_wp2_with (at_builtin; go_must (refine wpList_addBG rfl _ _ rfl base (.slice A l'.length c) l' rfl ?x1 (wr.heap.size + 1) _ [bt] rfl (RdB.one wr _) hl' ?x2 ?x3))
      case x1 => exact HO.out.alloc _
      case x2 => simp; omega
      intro A2 c2 w2 ho2 hg2
      have hb2 := Wr.still HB.out HO.out _ hg2.out
      have k0 := hb2.cell 0 _ rfl
      have g0 := hb2.frozen 0
      go_wp2_with fail
      have hre : R = (l' ++ [bt]) ++ enc (m / 128) := by rw [HE.out, enc_big hlt, HBT.out]; simp
      have ho3 : OwnB w2 base (.slice A2 (l' ++ [bt]).length c2) (l' ++ [bt]) := by simpa using ho2.out
      obtain ⟨q1, q2⟩ := Wr.stored HB.out HO.out _ hg2.out ho3 hs hp HBW.out
      simp only [List.length_append, List.length_singleton] at q1 q2
      go_roundw
      case rel => exact ⟨m / 128, l' ++ [bt], by omega, by go_num, q1, hre, q2⟩
      case measure => simp [intOf]; omega
    · obtain ⟨bt, hbt⟩ : ∃ bt, bt = UInt8.ofNat m := ⟨_, rfl⟩
      have HBT := Lib.hid hbt
      have h1 : (m : Int) = (bt.toNat : Int) := by rw [hbt, u8_ofNat (by omega)]
      clear hbt
      have hm7 : (m : Int) ≤ 127 := by omega
      have H1 := Lib.hid h1; clear h1
      go_wp2_with (at_builtin; go_must (refine wpList_addBG rfl _ _ rfl base (.slice A l'.length c) l' rfl ?y1 (wr.heap.size + 1) _ [bt] rfl ?y5 hl' ?y2 ?y3))
      case y1 => exact HO.out.alloc _
      case y5 => rw [H1.out]; exact RdB.one wr _
      case y2 => simp; omega
      intro A2 c2 w2 ho2 hg2
      have hb2 := Wr.still HB.out HO.out _ hg2.out
      have k0 := hb2.cell 0 _ rfl
      have g0 := hb2.frozen 0
      go_wp2_with fail
      have hre : R = l' ++ [bt] := by rw [HE.out, enc_small (by omega), HBT.out]
      have ho3 : OwnB w2 base (.slice A2 (l' ++ [bt]).length c2) (l' ++ [bt]) := by simpa using ho2.out
      obtain ⟨q1, q2⟩ := Wr.stored HB.out HO.out _ hg2.out ho3 hs hp HBW.out
      simp only [List.length_append, List.length_singleton] at q1 q2
      go_ret
      exact ⟨rfl, by rw [hre]; exact q1, q2⟩

set_option maxHeartbeats 1000000 in
set_option maxRecDepth 100000 in
theorem wnum_neg (n : Int) (hn : n < 0) (base p : Nat) (l : List UInt8) (e : Int) (w : World) (hw : Wr w base p l e) :
    Calls Try.prog 48 #[.pointer (some ⟨p, 0, none⟩), .int .i64 n] w fun x w' => x = .returned (.pointer (some ⟨p, 0, none⟩)) ∧ Wr w' base p l (firstErr e 5) ∧ Below base w w' := by
  have HF := Lib.hid (wfail_any base p l e 5 w hw)
  clear hw
  go_enter Try.func48, Try.ntmps48
  go_wp2_with fail
  refine HF.out.mono ?_
  rintro x w1 ⟨rfl, hw, hb⟩
  have HW := Lib.hid hw; clear hw
  have HB := Lib.hid hb; clear hb
  go_wp2_with fail
  go_ret
  exact ⟨rfl, HW.out, HB.out⟩

set_option maxHeartbeats 2000000 in
set_option maxRecDepth 100000 in
theorem wtext_any (s : ByteArray) (hs : s.size ≤ 65536) (base p : Nat) (l : List UInt8) (e : Int) (w : World) (hw : Wr w base p l e) (hl : l.length ≤ 200000000000000) :
    Calls Try.prog 53 #[.pointer (some ⟨p, 0, none⟩), .string s] w fun x w' => x = .returned (.pointer (some ⟨p, 0, none⟩)) ∧ Wr w' base p (l ++ encT s.data.toList) e ∧ Below base w w' := by
  have hnum := wnum_any s.size (by omega) base p l e w hw (by omega)
  obtain ⟨R, hR⟩ : ∃ R, R = l ++ enc s.size := ⟨_, rfl⟩
  have hRl : R.length ≤ l.length + 9 := by rw [hR, List.length_append]; have := enc_len9 (n := s.size) (by omega); omega
  have hF : l ++ encT s.data.toList = R ++ s.data.toList := by rw [hR, encT, data_len, List.append_assoc]
  rw [← hR] at hnum
  rw [hF]
  have HP := Lib.hid hnum; clear hnum
  clear hw hR hF
  go_enter Try.func53, Try.ntmps53
  go_wp2_with fail
  refine HP.out.mono ?_
  rintro x w1 ⟨rfl, ⟨A, c, hb, ho, hp, hs1⟩, hbw⟩
  have c0 := hb.cell 0 _ rfl
  have HB := Lib.hid hb; clear hb
  have HO := Lib.hid ho; clear ho
  have HBW := Lib.hid hbw; clear hbw
  go_wp2_with (at_builtin; go_must (refine wpList_addStrG rfl _ _ rfl base (.slice A R.length c) R rfl HO.out s rfl (by omega) (by omega) hs1 ?_))
  intro A2 c2 w2 ho2 hg2
  have hb2 := HB.out.grown hg2.out (HO.out.apart HB.out (by decide))
  have k0 := hb2.cell 0 _ rfl
  have g0 := hb2.frozen 0
  go_wp2_with fail
  go_ret
  have e1 : (R ++ s.data.toList).length = R.length + s.size := by rw [List.length_append, data_len]
  have ho3 := ho2.out
  exact ⟨rfl, ⟨A2, c2, by rw [e1]; exact hb2.put 0 _, by rw [e1]; exact ho3.put hb2 (by decide) 0 _, hp, by have := hg2.out.size; simp; omega⟩, (HO.out.grown HBW.out hg2.out (Nat.le_refl _) hs1).setCell hp _⟩

set_option maxHeartbeats 1000000 in
set_option maxRecDepth 100000 in
theorem wtext_big (s : ByteArray) (hs : s.size > 65536) (hs2 : s.size ≤ 140737488351232) (base p : Nat) (l : List UInt8) (e : Int) (w : World) (hw : Wr w base p l e) :
    Calls Try.prog 53 #[.pointer (some ⟨p, 0, none⟩), .string s] w fun x w' => x = .returned (.pointer (some ⟨p, 0, none⟩)) ∧ Wr w' base p l (firstErr e 6) ∧ Below base w w' := by
  have HF := Lib.hid (wfail_any base p l e 6 w hw)
  clear hw
  have hb : (65536 : Int) < (s.size : Int) := by omega
  go_enter Try.func53, Try.ntmps53
  go_wp2_with fail
  refine HF.out.mono ?_
  rintro x w1 ⟨rfl, hw, hb⟩
  have HW := Lib.hid hw; clear hw
  have HB := Lib.hid hb; clear hb
  go_wp2_with fail
  go_ret
  exact ⟨rfl, HW.out, HB.out⟩



set_option maxRecDepth 100000 in
theorem putText_any (l : List UInt8) (v : Value) (s : ByteArray) (w : World) (hv : RdB w w.heap.size v l) (hl : l.length ≤ 140737488351232) (hs : s.size ≤ 140737488351232) :
    Calls Try.prog 50 #[v, .string s] w fun e w' => ∃ v', e = .returned (.tuple #[v', .int .i64 (putTAns l s).2]) ∧ RdB w' w'.heap.size v' (putTAns l s).1 ∧ Below w.heap.size w w' := by
  have hbe := behind_any l v w hv hl
  obtain ⟨R, hR⟩ : ∃ R, R = putTAns l s := ⟨_, rfl⟩
  rw [← hR]
  unfold putTAns at hR
  have HB := Lib.hid hbe; clear hbe
  have HR := Lib.hid hR; clear hR
  clear hv
  go_enter Try.func50, Try.ntmps50
  go_wp2_with fail
  refine HB.out.mono ?_
  rintro e w1 ⟨p, rfl, hw, hb⟩
  have HW := Lib.hid hw; clear hw
  have HB1 := Lib.hid hb; clear hb
  by_cases hbig : s.size > 65536
  · have hr := HR.out
    rw [if_pos hbig] at hr
    have HR2 := Lib.hid hr; clear hr
    go_wp2_with fail
    refine (wtext_big s hbig hs _ p l 0 w1 HW.out).mono ?_
    rintro e w2 ⟨rfl, hw2, hb2⟩
    have HD := Lib.hid (wdone_any _ p l 6 w2 hw2)
    have HB2 := Lib.hid hb2; clear hb2 hw2
    go_wp2_with fail
    refine HD.out.mono ?_
    rintro e w3 ⟨v', rfl, hr3, hb3⟩
    have HR3 := Lib.hid hr3; clear hr3
    have HB3 := Lib.hid hb3; clear hb3
    go_wp2_with fail
    go_ret2
    exact ⟨v', by rw [HR2.out]; rfl, by rw [HR2.out]; exact HR3.out, (HB1.out.trans HB2.out).trans HB3.out⟩
  · have hr := HR.out
    rw [if_neg hbig] at hr
    have HR2 := Lib.hid hr; clear hr
    go_wp2_with fail
    refine (wtext_any s (by omega) _ p l 0 w1 HW.out (by omega)).mono ?_
    rintro e w2 ⟨rfl, hw2, hb2⟩
    have HD := Lib.hid (wdone_any _ p (l ++ encT s.data.toList) 0 w2 hw2)
    have HB2 := Lib.hid hb2; clear hb2 hw2
    go_wp2_with fail
    refine HD.out.mono ?_
    rintro e w3 ⟨v', rfl, hr3, hb3⟩
    have HR3 := Lib.hid hr3; clear hr3
    have HB3 := Lib.hid hb3; clear hb3
    go_wp2_with fail
    go_ret2
    exact ⟨v', by rw [HR2.out]; rfl, by rw [HR2.out]; exact HR3.out, (HB1.out.trans HB2.out).trans HB3.out⟩

set_option maxRecDepth 100000 in
theorem any_take_succ (l : List Int) (i : Nat) (h : i < l.length) : (l.take (i + 1)).any (· < 0) = ((l.take i).any (· < 0) || decide (l[i] < 0)) := by
  rw [List.take_add_one, List.getElem?_eq_getElem h, List.any_append]; simp

/-- the error behind the first numbers -/
def negErr (l : List Int) : Int := if l.any (· < 0) then 5 else 0

set_option maxHeartbeats 2000000 in
set_option maxRecDepth 100000 in
theorem numsO_any (l : List Int) (hr : ∀ n ∈ l, n < 9223372036854775808) (v : Value) (w : World) (hv : RdI w w.heap.size v l) (hl : l.length < 4611686018427387904) :
    Calls Try.prog 45 #[v] w fun e w' => ∃ v', e = .returned (.tuple #[v', .int .i64 (numsAns l).2]) ∧ OwnB w' w.heap.size v' (numsAns l).1 ∧ Below w.heap.size w w' := by
  obtain ⟨A, c, rfl, hc, hi⟩ := hv.at
  by_cases hbig : l.length > 4096
  · rw [numsAns, if_pos hbig]
    have hb : (4096 : Int) < (l.length : Int) := by omega
    clear hi hv
    go_enter Try.func45, Try.ntmps45
    go_wp2_with fail
    go_ret2
    exact ⟨_, rfl, Own.nil _ _, Below.refl _ _⟩
  · obtain ⟨R, hR⟩ : ∃ R, R = numsAns l := ⟨_, rfl⟩
    rw [← hR]
    rw [numsAns, if_neg hbig] at hR
    have hb : ¬ (4096 : Int) < (l.length : Int) := by omega
    have HR := Lib.hid hR; clear hR
    have HI := Lib.hid hi; clear hi
    have HV := Lib.hid hv; clear hv
    have HH := Lib.hid hr; clear hr
    obtain ⟨g, hg⟩ : ∃ g, g = w.heap.size := ⟨_, rfl⟩
    have HG := Lib.hid hg; clear hg
    have HBE := Lib.hid (behind_any [] (.slice none 0 0) w (Rd.nil _ _) (by simp))
    go_enter Try.func45, Try.ntmps45
    go_wp2_with fail
    refine HBE.out.mono ?_
    rintro e w1 ⟨p, rfl, hw, hb⟩
    rw [← HG.out] at hw hb
    have HW := Lib.hid hw; clear hw
    have HB1 := Lib.hid hb; clear hb
    go_wp2_with fail
    go_loopw [4, 13] (fun pv iv wr => ∃ (i : Nat) (l' : List UInt8) (e : Int), i ≤ l.length ∧ iv = .int .i64 i ∧ pv = .pointer (some ⟨p, 0, none⟩) ∧ Wr wr g p l' e ∧ Below g w wr ∧ e = negErr (l.take i) ∧ l'.length ≤ i * 9 ∧ (e = 0 → l' = encs (l.take i))) (fun _ iv _ => l.length - (intOf iv).toNat)
    case atStart => exact ⟨0, [], 0, Nat.zero_le _, rfl, rfl, HW.out, HB1.out, rfl, by simp, fun _ => rfl⟩
    case round =>
      obtain ⟨i, l', e, hil, rfl, rfl, hw, hbw, he, hll, hle⟩ := hrel
      have HW := Lib.hid hw; clear hw
      have HB := Lib.hid hbw; clear hbw
      have HE := Lib.hid he; clear he
      have HLE := Lib.hid hle; clear hle
      by_cases hlt : i < l.length
      · obtain ⟨b, o, rfl, hbB, h1⟩ := HI.out i hlt
        have hx := HB.out.cell (p := ⟨b, o + i, none⟩) (by rw [HG.out]; exact hbB)
        rw [h1] at hx
        have hmem := HH.out l[i] (List.getElem_mem hlt)
        have htk : l.take (i + 1) = l.take i ++ [l[i]] := by rw [List.take_add_one, List.getElem?_eq_getElem hlt]; rfl
        have hany := any_take_succ l i hlt
        generalize l[i] = z at h1 hx hmem htk hany
        clear h1
        by_cases hz : z < 0
        · have hn := wnum_neg z hz g p l' e wr HW.out
          have he2 : firstErr e 5 = negErr (l.take (i + 1)) := by
            rw [HE.out]; unfold firstErr negErr; rw [hany]
            by_cases h : (l.take i).any (· < 0) = true <;> simp [h, hz]
          have hne : firstErr e 5 ≠ 0 := by rw [he2]; unfold negErr; rw [hany]; simp [hz]
          have HN := Lib.hid hn
          have HE2 := Lib.hid he2
          clear hn he2 hany htk hmem
          go_wp2_with fail
          refine HN.out.mono ?_
          rintro x w2 ⟨rfl, hw2, hb2⟩
          have HW2 := Lib.hid hw2
          have HB2 := Lib.hid (HB.out.trans hb2)
          clear hw2 hb2
          generalize firstErr e 5 = e2 at hne HE2 HW2
          have HNE := Lib.hid hne; clear hne
          go_wp2_with fail
          go_roundw
          case rel => exact ⟨i + 1, l', e2, by omega, by go_num, rfl, HW2.out, HB2.out, HE2.out, by omega, fun h => absurd h HNE.out⟩
          case measure => simp [intOf]; omega
        · obtain ⟨n, rfl⟩ : ∃ n : Nat, z = (n : Int) := ⟨z.toNat, by omega⟩
          have hn := wnum_any n (by omega) g p l' e wr HW.out (by omega)
          have he2 : e = negErr (l.take (i + 1)) := by
            rw [HE.out]; unfold negErr; rw [hany, decide_eq_false hz, Bool.or_false]
          have hle2 : (l' ++ enc n).length ≤ (i + 1) * 9 := by rw [List.length_append]; have := enc_len9 (n := n) (by omega); omega
          have hl2 : e = 0 → l' ++ enc n = encs (l.take (i + 1)) := fun h => by rw [htk, encs_append, HLE.out h]; simp [encs]
          have HN := Lib.hid hn
          have HE2 := Lib.hid he2
          have HL2 := Lib.hid hl2
          have HLE2 := Lib.hid hle2
          clear hn he2 hany htk hmem hl2 hle2 hz
          generalize l' ++ enc n = l2 at HN HL2 HLE2
          go_wp2_with fail
          refine HN.out.mono ?_
          rintro x w2 ⟨rfl, hw2, hb2⟩
          have HW2 := Lib.hid hw2
          have HB2 := Lib.hid (HB.out.trans hb2)
          clear hw2 hb2
          go_wp2_with fail
          go_roundw
          case rel => exact ⟨i + 1, l2, e, by omega, by go_num, rfl, HW2.out, HB2.out, HE2.out, HLE2.out, HL2.out⟩
          case measure => simp [intOf]; omega
      · obtain rfl : i = l.length := by omega
        have HD := Lib.hid (wdoneO_any _ p l' e wr HW.out)
        have hee := HE.out
        rw [List.take_length] at hee
        unfold negErr at hee
        have hr := HR.out
        have hle := HLE.out
        rw [List.take_length] at hle
        have key : R = (if e = 0 then l' else [], e) := by
          rw [hr]
          by_cases h : l.any (· < 0) = true
          · rw [if_pos h] at hee ⊢; rw [hee]; rfl
          · rw [if_neg h] at hee ⊢; rw [hee, if_pos rfl, hle hee]
        have HK := Lib.hid key
        clear key hr hle hee
        go_wp2_with fail
        refine HD.out.mono ?_
        rintro x w2 ⟨v', rfl, hr2, hb2⟩
        have HR2 := Lib.hid hr2
        have HB2 := Lib.hid (HB.out.trans hb2)
        clear hr2 hb2
        go_wp2_with fail
        go_ret2
        exact ⟨v', by rw [HK.out]; rfl, by rw [HK.out, ← HG.out]; exact HR2.out, by have h := HB2.out; rw [HG.out] at h; exact h⟩
theorem nums_any (l : List Int) (hr : ∀ n ∈ l, n < 9223372036854775808) (v : Value) (w : World) (hv : RdI w w.heap.size v l) (hl : l.length < 4611686018427387904) :
    Calls Try.prog 45 #[v] w fun e w' => ∃ v', e = .returned (.tuple #[v', .int .i64 (numsAns l).2]) ∧ RdB w' w'.heap.size v' (numsAns l).1 ∧ Below w.heap.size w w' := by
  refine (numsO_any l hr v w hv hl).mono ?_
  rintro e w' ⟨v', h1, h2, h3⟩
  exact ⟨v', h1, h2.rdB, h3⟩
end Go.Proofs.Ytmakgjokadcfjaa
namespace Go.Proofs.Ytmakgjokadcfjaa
open Go.RowKit

theorem Whole.rd {α : Type} {enc : α → List Value} {k : Nat} (hk : ∀ x, (enc x).length = k) {w : World} {g : Nat} {t : TypeId} {l : List α} (h : Whole w g t (flatG enc l)) : Rd enc k w (g + 1) (.slice (some ⟨g, 0, none⟩) l.length l.length) l := by
  refine ⟨_, l.length, rfl, Nat.le_refl _, fun i hi => ⟨g, 0, rfl, Nat.lt_succ_self _, fun j u hu => ?_⟩⟩
  have hj : j < k := by
    rcases Nat.lt_or_ge j k with h' | h'
    · exact h'
    · rw [List.getElem?_eq_none (by rw [hk]; exact h')] at hu; cases hu
  refine h.cell _ _ ?_
  rw [Nat.zero_add, flatG_get hk l i hi j hj]
  exact hu

/-- a writer of the frame layer at block p -/
def FW (w : World) (base p : Nat) (l : List UInt8) : Prop :=
  ∃ A c, Whole w p 68 [.slice A l.length c] ∧ OwnB w base (.slice A l.length c) l ∧ base ≤ p ∧ base ≤ w.heap.size
/-- blocks of other types than a writer's and its bytes' are kept -/
def Keeps (w w' : World) : Prop := w.heap.size ≤ w'.heap.size ∧ ∀ g t cs, Whole w g t cs → t ≠ 5 → t ≠ 68 → Whole w' g t cs
theorem Keeps.refl (w : World) : Keeps w w := ⟨Nat.le_refl _, fun _ _ _ h _ _ => h⟩
theorem Keeps.trans {a b c : World} (h : Keeps a b) (k : Keeps b c) : Keeps a c := ⟨Nat.le_trans h.1 k.1, fun g t cs h1 h2 h3 => k.2 g t cs (h.2 g t cs h1 h2 h3) h2 h3⟩
theorem Keeps.of {w w' : World} (h : Below w.heap.size w w') : Keeps w w' := ⟨h.size, fun _ _ _ h1 _ _ => h1.below h h1.size⟩
theorem Keeps.alloc (w : World) (o : Obj) : Keeps w (w.alloc o) := .of ((Below.refl _ w).alloc (Nat.le_refl _) o)
theorem FW.more {w w' : World} {base p B : Nat} {l : List UInt8} (h : FW w base p l) (hb : Below B w w') (hB : w.heap.size ≤ B) : FW w' base p l := by
  obtain ⟨A, c, hw, ho, hp, hs⟩ := h
  exact ⟨A, c, hw.below hb (Nat.lt_of_lt_of_le hw.size hB), ho.below hb hB, hp, Nat.le_trans hs hb.size⟩
theorem FW.size {w : World} {base p : Nat} {l : List UInt8} (h : FW w base p l) : base ≤ w.heap.size := by obtain ⟨_, _, _, _, _, h⟩ := h; exact h
/-- what an append of its bytes and a store leave -/
theorem FW.stored {w w2 : World} {base p : Nat} {l l2 : List UInt8} {A A2 : Option Addr} {c c2 : Nat} (hb : Whole w p 68 [.slice A l.length c]) (ho : OwnB w base (.slice A l.length c) l) (hp : base ≤ p) (hs : base ≤ w.heap.size)
    (ho2 : OwnB w2 base (.slice A2 l2.length c2) l2) (hg : w.grownBy w2 (Value.slice A l.length c).ownBlock) :
    FW (w2.setCell ⟨p, 0, none⟩ (.slice A2 l2.length c2)) base p l2 ∧ Below base w (w2.setCell ⟨p, 0, none⟩ (.slice A2 l2.length c2)) ∧ Keeps w (w2.setCell ⟨p, 0, none⟩ (.slice A2 l2.length c2)) := by
  have hb2 := hb.grown hg (ho.apart hb (by decide))
  refine ⟨⟨A2, c2, hb2.put 0 _, ho2.put hb2 (by decide) 0 _, hp, ?_⟩, (ho.grown (Below.refl _ _) hg (Nat.le_refl _) hs).setCell hp _, ?_, fun g t cs h1 h2 h3 => ?_⟩
  · have := hg.size; simp; omega
  · have := hg.size; simpa using this
  · have hne : some g ≠ (Value.slice A l.length c).ownBlock := ho.apart h1 (Ne.symm h2)
    exact (h1.grown hg hne).away (p := ⟨p, 0, none⟩) (h1.apart hb h3) _

set_option maxHeartbeats 1000000 in
set_option maxRecDepth 100000 in
theorem fnums_any (l : List Int) (hr : ∀ n ∈ l, 0 ≤ n ∧ n < 9223372036854775808) (hl : l.length ≤ 4096) (v : Value) (base p : Nat) (m : List UInt8) (w : World) (hw : FW w base p m) (hv : RdI w w.heap.size v l) (hm : m.length ≤ 200000000000000) :
    Calls Try.prog 39 #[.pointer (some ⟨p, 0, none⟩), v] w fun x w' => x = .returned (.pointer (some ⟨p, 0, none⟩)) ∧ FW w' base p (m ++ encs l) ∧ Below base w w' ∧ Keeps w w' := by
  obtain ⟨A, c, hb, ho, hp, hs⟩ := hw
  have hn := nums_any l (fun n h => (hr n h).2) v w hv (by omega)
  rw [show numsAns l = (encs l, 0) by
    rw [numsAns, if_neg (by omega), if_neg]
    simp only [List.any_eq_true, decide_eq_true_eq, not_exists, not_and]
    intro n h
    have := (hr n h).1
    omega] at hn
  have hlen := encs_len l (fun n h => (hr n h).2)
  obtain ⟨A3, c3, rfl, _, _⟩ := hv.at
  generalize encs l = R at hn hlen ⊢
  have HN := Lib.hid hn; clear hn hr hv
  have HB := Lib.hid hb; clear hb
  have HO := Lib.hid ho; clear ho
  go_enter Try.func39, Try.ntmps39
  go_wp2_with fail
  refine HN.out.mono ?_
  rintro e w1 ⟨v1, rfl, hr1, hb1⟩
  have hW1 := HB.out.below hb1 HB.out.size
  have hO1 := HO.out.below hb1 (Nat.le_refl _)
  obtain ⟨A1, c1, rfl, _, _⟩ := hr1.at
  have c0 := hW1.cell 0 _ rfl
  have hs1 : base ≤ w1.heap.size := Nat.le_trans hs hb1.size
  have HK1 := Lib.hid (Keeps.of hb1)
  have HB1 := Lib.hid (hb1.mono hs); clear hb1
  have HW1 := Lib.hid hW1; clear hW1
  have HO1 := Lib.hid hO1; clear hO1
  have HR1 := Lib.hid hr1; clear hr1
  go_wp2_with (at_builtin; go_must (refine wpList_addBG rfl _ _ rfl base (.slice A m.length c) m rfl HO1.out w1.heap.size _ R rfl HR1.out (by omega) hs1 ?_))
  intro A2 c2 w2 ho2 hg2
  have hb2 := HW1.out.grown hg2.out (HO1.out.apart HW1.out (by decide))
  have k0 := hb2.cell 0 _ rfl
  have g0 := hb2.frozen 0
  obtain ⟨h1, h2, h3⟩ := FW.stored (l2 := m ++ R) (A2 := A2) (c2 := c2) HW1.out HO1.out hp hs1 (by rw [List.length_append]; exact ho2.out) hg2.out
  have H1 := Lib.hid h1
  have H2 := Lib.hid h2
  have H3 := Lib.hid h3
  clear hb2 h1 h2 h3 ho2 hg2
  simp only [List.length_append] at H1 H2 H3
  go_wp2_with fail
  go_ret
  exact ⟨rfl, H1.out, HB1.out.trans H2.out, HK1.out.trans H3.out⟩

/-- texts as bytes -/
def txts (ks : List K) : List UInt8 := ks.flatMap fun k => encT k.data.toList
theorem txts_append (a b : List K) : txts (a ++ b) = txts a ++ txts b := by simp [txts]
theorem encT_len (k : K) (h : k.size ≤ 65536) : (encT k.data.toList).length ≤ k.size + 9 := by
  rw [encT, List.length_append, data_len]
  have := enc_len9 (n := k.size) (by omega)
  omega
theorem txts_len : ∀ (ks : List K), (∀ k ∈ ks, k.size ≤ 65536) → (txts ks).length ≤ ks.length * 65545
  | [], _ => by simp [txts]
  | k :: r, h => by
    have h1 := txts_len r fun x hx => h x (by simp [hx])
    have h2 := encT_len k (h k (by simp))
    have h3 := h k (by simp)
    rw [show txts (k :: r) = encT k.data.toList ++ txts r from rfl, List.length_append, List.length_cons]
    omega

set_option maxHeartbeats 2000000 in
set_option maxRecDepth 100000 in
theorem ftexts_any (ks : List K) (hs : ∀ k ∈ ks, k.size ≤ 65536) (n : Nat) (hn : ks.length = n) (hn2 : n ≤ 24) (g base p : Nat) (m : List UInt8) (w : World) (hw : FW w base p m) (hg : Whole w g 9 (ks.map .string)) (hm : m.length ≤ 190000000000000) :
    Calls Try.prog 46 #[.pointer (some ⟨p, 0, none⟩), .slice (some ⟨g, 0, none⟩) n n] w fun x w' => x = .returned (.pointer (some ⟨p, 0, none⟩)) ∧ FW w' base p (m ++ txts ks) ∧ Below base w w' ∧ Keeps w w' := by
  have HW := Lib.hid hw; clear hw
  have HG := Lib.hid hg; clear hg
  have HS := Lib.hid hs; clear hs
  go_enter Try.func46, Try.ntmps46
  go_wp2_with fail
  go_loopw [11] (fun iv wr => ∃ (i : Nat) (m' : List UInt8), i ≤ n ∧ iv = .int .i64 i ∧ FW wr base p m' ∧ m' = m ++ txts (ks.take i) ∧ m'.length ≤ m.length + i * 65545 ∧ Whole wr g 9 (ks.map .string) ∧ Below base w wr ∧ Keeps w wr) (fun iv _ => n - (intOf iv).toNat)
  case atStart => exact ⟨0, m, Nat.zero_le _, rfl, HW.out, by simp [txts], by omega, HG.out, Below.refl _ _, Keeps.refl _⟩
  case round =>
    obtain ⟨i, m', hi, rfl, ⟨A, c, hb, ho, hp, hs⟩, hme, hml, hwg, hbw, hk⟩ := hrel
    have HB := Lib.hid hb; clear hb
    have HO := Lib.hid ho; clear ho
    have HME := Lib.hid hme; clear hme
    have HWG := Lib.hid hwg; clear hwg
    have HBW := Lib.hid hbw; clear hbw
    have HK := Lib.hid hk; clear hk
    by_cases hlt : i < n
    · have hlt2 : i < ks.length := by omega
      have hks := HS.out ks[i] (List.getElem_mem hlt2)
      have hx := HWG.out.cell i (.string ks[i]) (by simp [hlt2])
      have htk : txts (ks.take (i + 1)) = txts (ks.take i) ++ encT ks[i].data.toList := by
        rw [List.take_add_one, List.getElem?_eq_getElem hlt2, txts_append]; simp [txts]
      generalize ks[i] = k at hks hx htk
      have hpt := fun W => putText_any [] (.slice none 0 0) k W (Rd.nil _ _) (by simp) (by omega)
      rw [show putTAns [] k = (encT k.data.toList, 0) by rw [putTAns, if_neg (by omega)]; rfl] at hpt
      have hel := encT_len k hks
      have hnew : m' ++ encT k.data.toList = m ++ txts (ks.take (i + 1)) := by rw [HME.out, htk, List.append_assoc]
      generalize encT k.data.toList = R at hpt hel hnew
      have HPT := Lib.hid hpt
      have HNEW := Lib.hid hnew
      clear hpt htk hnew
      go_wp2_with fail
      refine (HPT.out _).mono ?_
      rintro e w1 ⟨v1, rfl, hr1, hb1⟩
      have hW1 := HB.out.below hb1 HB.out.size
      have hO1 := HO.out.below hb1 (Nat.le_refl _)
      have hG1 := HWG.out.below hb1 HWG.out.size
      obtain ⟨A1, c1, rfl, _, _⟩ := hr1.at
      have c0 := hW1.cell 0 _ rfl
      have hs1 : base ≤ w1.heap.size := Nat.le_trans hs hb1.size
      have HK1 := Lib.hid (HK.out.trans (Keeps.of hb1))
      have HB1 := Lib.hid (HBW.out.trans (hb1.mono hs)); clear hb1
      have HW1 := Lib.hid hW1; clear hW1
      have HO1 := Lib.hid hO1; clear hO1
      have HR1 := Lib.hid hr1; clear hr1
      have HG1 := Lib.hid hG1; clear hG1 hx
      go_wp2_with (at_builtin; go_must (refine wpList_addBG rfl _ _ rfl base (.slice A m'.length c) m' rfl HO1.out w1.heap.size _ R rfl HR1.out (by omega) hs1 ?_))
      intro A2 c2 w2 ho2 hg2
      have hb2 := HW1.out.grown hg2.out (HO1.out.apart HW1.out (by decide))
      have k0 := hb2.cell 0 _ rfl
      have g0 := hb2.frozen 0
      obtain ⟨h1, h2, h3⟩ := FW.stored (l2 := m' ++ R) (A2 := A2) (c2 := c2) HW1.out HO1.out hp hs1 (by rw [List.length_append]; exact ho2.out) hg2.out
      have h4 := h3.2 _ _ _ HG1.out (by decide) (by decide)
      have H1 := Lib.hid h1
      have H2 := Lib.hid h2
      have H3 := Lib.hid h3
      have H4 := Lib.hid h4
      clear hb2 h1 h2 h3 h4 ho2 hg2
      simp only [List.length_append] at H1 H2 H3 H4
      go_wp2_with fail
      go_roundw
      case rel => exact ⟨i + 1, m' ++ R, by omega, by go_num, H1.out, HNEW.out, by rw [List.length_append]; omega, H4.out, HB1.out.trans H2.out, HK1.out.trans H3.out⟩
      case measure => simp [intOf]; omega
    · obtain rfl : i = n := by omega
      have hfw : FW wr base p m' := ⟨A, c, HB.out, HO.out, hp, hs⟩
      have hm2 := HME.out
      rw [List.take_of_length_le (by omega)] at hm2
      rw [hm2] at hfw
      have HF := Lib.hid hfw; clear hfw hm2
      go_wp2_with fail
      go_ret
      exact ⟨rfl, HF.out, HBW.out, HK.out⟩
end Go.Proofs.Ytmakgjokadcfjaa
