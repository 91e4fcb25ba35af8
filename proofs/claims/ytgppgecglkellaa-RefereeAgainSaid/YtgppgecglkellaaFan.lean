/- The simplest facts, which each statement of the marks layer asks first. The simplest facts of the marks layer hold. The reference's Marks: Judge. How the reference's Size gathers pieces, and counts them: pure. The reference's Marks: Size. Acts of marks as they come in; the program's marks beside the reference's. Transactions as arguments: one that came in, some of a list; pure facts for the small laws. Arguments of the marks laws as data: changes, spans, transactions, lists of them, acts. A referee as a state: what each call of it answers; pure. -/
import Derived.Test.YtgppgecglkellaaFam
import Derived.Test.YtgppgecglkellaaFad
import Derived.Test.YtgppgecglkellaaFaa
import Derived.Test.YtgppgecglkellaaFac
namespace Go.Proofs.Ytgppgecglkellaa
open Go.RowKit

def kA : K := ⟨#[97]⟩
def kB : K := ⟨#[98]⟩
def kC : K := ⟨#[99]⟩
def awT1 : Txn := ⟨0, [], [⟨1, kA, ⟨#[]⟩⟩]⟩
def awT2 : Txn := ⟨6, [(kA, kB)], []⟩
theorem kAB : kA < kB := by decide
theorem kAC : kA < kC := by decide
theorem aw_keys (k : K) : keysOf awT1 k ↔ k = kA := by
  unfold keysOf awT1
  simp only [List.map_cons, List.map_nil, mem_cons, mem_nil, or_false, cspan]
  rw [if_neg (by decide)]
  constructor
  · rintro ⟨h1, h2⟩
    rcases next_gap kA k with h | h
    · exact Std.IsPartialOrder.le_antisymm _ _ h h1
    · simp only at h2
      grind
  · rintro rfl
    exact ⟨Std.IsPreorder.le_refl _, next_gt _⟩
noncomputable def awM : Mk := wrote (mnew 5) 9 awT1
theorem awM_f (k : K) : awM.f k = if k = kA then 9 else 0 := by
  unfold awM wrote
  simp only
  by_cases h : k = kA
  · rw [if_pos ((aw_keys k).2 h), if_pos h]
  · rw [if_neg (fun e => h ((aw_keys k).1 e)), if_neg h]
    rfl
theorem awM_floor : awM.floor = 5 := rfl
theorem aw_hasA {t : K} (h : kA < t) : has (kA, t) kA := ⟨Std.IsPreorder.le_refl _, h⟩
theorem aw_v1 : verd (mnew 5) awT1 = 1 := by
  unfold verd
  rw [if_neg (by simp [awT1]), if_neg]
  rintro ⟨s, hs, _⟩
  simp [awT1] at hs
theorem aw_v2 : verd awM awT2 = 2 := by
  unfold verd
  rw [if_neg (by rw [awM_floor]; simp [awT2]), if_pos]
  exact ⟨(kA, kB), by simp [awT2], kA, aw_hasA kAB, by rw [awM_f, if_pos rfl, awM_floor]; omega, by rw [awM_f, if_pos rfl]; simp [awT2]⟩
theorem aw_judge : judgeL (mnew 5) 9 [awT1, awT2] = [1, 2] ∧ judgeM (mnew 5) 9 [awT1, awT2] = awM := by
  have e1 : judge1 (mnew 5) 9 awT1 = awM := by unfold judge1; rw [if_pos aw_v1]; rfl
  have e2 : judge1 awM 9 awT2 = awM := by unfold judge1; rw [if_neg (by rw [aw_v2]; omega)]
  simp only [judgeL, judgeM]
  rw [e1, e2, aw_v1, aw_v2]
  exact ⟨rfl, rfl⟩
theorem aw_sound : soundT awT1 ∧ soundT awT2 := by
  constructor
  · refine ⟨by decide, by decide, by simp [awT1], by decide, by decide⟩
  · refine ⟨by decide, by decide, ?_, by decide, by decide⟩
    intro s hs
    simp only [awT2, List.mem_cons, List.not_mem_nil, or_false] at hs
    subst hs
    exact ⟨by decide, by decide, by decide⟩
theorem aw_fit : fitT awT1 ∧ fitT awT2 := by
  constructor
  · refine ⟨by decide, by simp [awT1], by decide, fun c hc => ?_⟩
    simp only [awT1, List.mem_cons, List.not_mem_nil, or_false] at hc
    subst hc
    exact ⟨by decide, by decide⟩
  · refine ⟨by decide, fun s hs => ?_, by decide, by simp [awT2]⟩
    simp only [awT2, List.mem_cons, List.not_mem_nil, or_false] at hs
    subst hs
    exact ⟨by decide, by decide⟩
theorem aw_err : jerr (mnew 5) 9 [awT1, awT2] = 0 := by
  unfold jerr
  rw [if_neg (by simp [mnew]), if_neg]
  rintro (h | ⟨t, ht, hn⟩)
  · simp at h
  · simp only [List.mem_cons, List.not_mem_nil, or_false] at ht
    rcases ht with rfl | rfl
    · exact hn aw_sound.1
    · exact hn aw_sound.2
theorem aw_out : jout (mnew 5) 9 [awT1, awT2] = [1, 2] ∧ jnext (mnew 5) 9 [awT1, awT2] = awM := by
  unfold jout jnext
  rw [aw_err, if_pos rfl, if_pos rfl]
  exact aw_judge
theorem aw_last {n : Int} (hok : awM.Ok) (h : LastIs awM (kA, kC) n) : n = 9 := by
  refine LastIs.eq hok h (.inr ⟨by rw [awM_floor]; omega, ⟨kA, aw_hasA kAC, by rw [awM_f, if_pos rfl]⟩, fun k _ => ?_⟩)
  rw [awM_f]
  split <;> omega
theorem aw_size {n : Nat} (h : SizeIs awM.f awM.floor n) : n = 1 := by
  refine SizeIs.eq h ⟨[kA], by simp, rfl, fun k => ?_⟩
  rw [List.mem_singleton]
  unfold isStart
  rw [awM_floor]
  constructor
  · rintro rfl
    refine ⟨by rw [awM_f, if_pos rfl]; omega, fun j hj => ⟨j, Std.IsPreorder.le_refl _, hj, ?_⟩⟩
    rw [awM_f, awM_f, if_pos rfl, if_neg (by rintro rfl; grind)]
    omega
  · rintro ⟨h1, _⟩
    rw [awM_f] at h1
    by_cases e : k = kA
    · exact e
    · rw [if_neg e] at h1; omega
/-- what a call leaves of the marks' -/
theorem mv_below {base q n : Nat} {G : Nat → Prop} {m : Mk} {w w' : World} (h : MkAt w base q G n m) (hm : Mv G w w') : Below base w w' := hm.below h.low.1 fun i hi => (h.low.2 i hi).1
theorem MkAt.new {base q n : Nat} {G : Nat → Prop} {m : Mk} {w w' : World} (h : MkAt w base q G n m) (hb : Below w.heap.size w w') : MkAt w' base q G n m := h.mv (Mv.of_new hb (fun _ => False)) (fun _ _ h => h)
set_option maxRecDepth 100000 in
theorem RdG.atI {w : World} {B : Nat} {G : Nat → Prop} {v : Value} {l : List Int} (h : RdG encI 1 w B G v l) : ∃ A c, v = .slice A l.length c ∧ l.length ≤ c ∧ ∀ i (_ : i < l.length), ∃ b o, A = some ⟨b, o, none⟩ ∧ b < B ∧ ¬ G b ∧ w.cell? ⟨b, o + i, none⟩ = some (.int .i64 l[i]) := by
  obtain ⟨A, c, hv, hc, hi⟩ := h
  refine ⟨A, c, hv, hc, fun i hs => ?_⟩
  obtain ⟨b, o, hA, hB, hg, h1⟩ := hi i hs
  have := h1 0 _ rfl
  simp only [Nat.mul_one, Nat.add_zero] at this
  exact ⟨b, o, hA, hB, hg, this⟩
/-- a row of one kind of cells, whole, as a slice -/
theorem Whole.rdg {α : Type} {enc : α → List Value} {k : Nat} {w : World} {g : Nat} {t : TypeId} {B : Nat} {G : Nat → Prop} {l : List α} {c : Nat} (hk : ∀ x, (enc x).length = k) (h : Whole w g t (flatG enc l)) (hc : l.length ≤ c) (hB : g < B) (hG : ¬ G g) : RdG enc k w B G (.slice (some ⟨g, 0, none⟩) l.length c) l := by
  refine ⟨_, c, rfl, hc, fun i hi => ⟨g, 0, rfl, hB, hG, fun j u hu => ?_⟩⟩
  have hj : j < k := by
    rcases Nat.lt_or_ge j k with h' | h'
    · exact h'
    · rw [List.getElem?_eq_none (by rw [hk]; exact h')] at hu; cases hu
  refine h.cell _ _ ?_
  rw [Nat.zero_add, flatG_get hk l i hi j hj]
  exact hu
end Go.Proofs.Ytgppgecglkellaa
namespace Go.Proofs.Ytgppgecglkellaa
open Go.RowKit

end Go.Proofs.Ytgppgecglkellaa
namespace Go.Proofs.Ytgppgecglkellaa
open Go.RowKit

theorem take_map {α β : Type} (f : α → β) (l : List α) (i : Nat) (h : i < l.length) : (l.map f).take (i + 1) = (l.map f).take i ++ [f l[i]] := by
  rw [List.take_add_one, List.getElem?_map, List.getElem?_eq_getElem h]
  rfl
theorem chgs_small {t : Txn} (h : fitT t) : ∀ c ∈ t.chgs, smallC c := h.2.2.2

end Go.Proofs.Ytgppgecglkellaa
namespace Go.Proofs.Ytgppgecglkellaa

/-- the pieces of the first i that were written -/
structure PiecesTo (L : List Wr) (floor : Int) (i : Nat) (X : List Wr) : Prop where
  ne : ∀ x ∈ X, x.s.1 < x.s.2 ∧ floor < x.v
  of : ∀ x ∈ X, ∃ j y, j < i ∧ L[j]? = some y ∧ y.v = x.v ∧ ∀ k, has x.s k → Left L j k
  all : ∀ j k y, j < i → L[j]? = some y → Left L j k → floor < y.v → ∃ x ∈ X, has x.s k
  apart : X.Pairwise fun x y => ∀ k, has x.s k → ¬ has y.s k
theorem PiecesTo.start (L : List Wr) (floor : Int) : PiecesTo L floor 0 [] := ⟨by simp, by simp, fun j _ _ h => by omega, .nil⟩
theorem left_one {L : List Wr} {j j' : Nat} {k : K} (h : Left L j k) (h' : Left L j' k) : j = j' := by
  obtain ⟨x, hx, hk, hn⟩ := h
  obtain ⟨x', hx', hk', hn'⟩ := h'
  have key : ∀ (a b : Nat) (y : Wr), a < b → L[b]? = some y → has y.s k → (∀ z ∈ L.drop (a + 1), ¬ has z.s k) → False := fun a b y hab hb hy hz => by
    refine hz y (List.mem_of_getElem? (i := b - (a + 1)) ?_) hy
    rw [List.getElem?_drop, show a + 1 + (b - (a + 1)) = b by omega]
    exact hb
  rcases Nat.lt_trichotomy j j' with hlt | hlt | hlt
  · exact (key j j' x' hlt hx' hk' hn).elim
  · exact hlt
  · exact (key j' j x hlt hx hk hn').elim
theorem PiecesTo.skip {L : List Wr} {floor : Int} {i : Nat} {X : List Wr} (h : PiecesTo L floor i X) (hi : i < L.length) (hv : L[i].v ≤ floor) : PiecesTo L floor (i + 1) X := by
  refine ⟨h.ne, fun x hx => ?_, fun j k y hj hy hl hf => ?_, h.apart⟩
  · obtain ⟨j, y, hj, r⟩ := h.of x hx
    exact ⟨j, y, by omega, r⟩
  · by_cases e : j = i
    · subst e
      rw [List.getElem?_eq_getElem hi] at hy
      injection hy with hy
      subst hy
      omega
    · exact h.all j k y (by omega) hy hl hf
theorem PiecesTo.add {L : List Wr} {floor : Int} {i : Nat} {X : List Wr} {R : List (K × K)} (h : PiecesTo L floor i X) (hi : i < L.length) (hv : floor < L[i].v) (hR : Fits R (fun k => Left L i k)) : PiecesTo L floor (i + 1) (X ++ R.map fun s => ⟨s, L[i].v⟩) := by
  refine ⟨fun x hx => ?_, fun x hx => ?_, fun j k y hj hy hl hf => ?_, ?_⟩
  · rcases List.mem_append.1 hx with hx | hx
    · exact h.ne x hx
    · obtain ⟨s, hs, rfl⟩ := List.mem_map.1 hx
      exact ⟨hR.1.ne s hs, hv⟩
  · rcases List.mem_append.1 hx with hx | hx
    · obtain ⟨j, y, hj, r⟩ := h.of x hx
      exact ⟨j, y, by omega, r⟩
    · obtain ⟨s, hs, rfl⟩ := List.mem_map.1 hx
      exact ⟨i, L[i], by omega, List.getElem?_eq_getElem hi, rfl, fun k hk => (hR.2 k).1 ⟨s, hs, hk⟩⟩
  · by_cases e : j = i
    · subst e
      obtain ⟨s, hs, hk⟩ := (hR.2 k).2 hl
      exact ⟨_, List.mem_append_right _ (List.mem_map.2 ⟨s, hs, rfl⟩), hk⟩
    · obtain ⟨x, hx, hk⟩ := h.all j k y (by omega) hy hl hf
      exact ⟨x, List.mem_append_left _ hx, hk⟩
  · refine List.pairwise_append.2 ⟨h.apart, ?_, fun x hx y hy k h1 h2 => ?_⟩
    · rw [List.pairwise_map]
      refine (normal_pair hR.1).imp ?_
      intro s t hst k h1 h2
      unfold has at h1 h2
      grind
    · obtain ⟨s, hs, rfl⟩ := List.mem_map.1 hy
      obtain ⟨j, z, hj, _, _, hl⟩ := h.of x hx
      have := left_one (hl k h1) ((hR.2 k).1 ⟨s, hs, h2⟩)
      omega
theorem PiecesTo.whole {L : List Wr} {floor : Int} {X : List Wr} (h : PiecesTo L floor L.length X) (h0 : 0 ≤ floor) : Pieces (ver L) floor X := by
  refine ⟨h.ne, fun k hk => ?_, fun x hx k hk => ?_, h.apart⟩
  · rcases ver_cases L k with ⟨e, _⟩ | ⟨j, y, hy, hl, e⟩
    · omega
    · exact h.all j k y (List.getElem?_eq_some_iff.1 hy).1 hy hl (by omega)
  · obtain ⟨j, y, hj, hy, hv, hl⟩ := h.of x hx
    rw [ver_left (hl k hk) hy, hv]

/-- how many are counted off when i of the outer loop are done, and k of the inner one -/
def gone (X : List Wr) (i k : Nat) : Nat := pairsOf (X.take i) X + (match X[i]? with | none => 0 | some x => ((X.take k).filter (touch x)).length)
theorem gone_zero (X : List Wr) : gone X 0 0 = 0 := by
  unfold gone pairsOf
  cases X[0]? <;> simp
theorem gone_step {X : List Wr} {i k : Nat} (hi : i < X.length) (hk : k < X.length) : gone X i (k + 1) = gone X i k + if touch X[i] X[k] then 1 else 0 := by
  unfold gone
  rw [List.getElem?_eq_getElem hi]
  simp only
  rw [List.take_add_one, List.getElem?_eq_getElem hk, Option.toList_some, List.filter_append, List.length_append]
  by_cases h : touch X[i] X[k] = true
  · rw [if_pos h, List.filter_cons_of_pos h]; simp; omega
  · rw [if_neg h, List.filter_cons_of_neg h]; simp
theorem gone_row {X : List Wr} {i : Nat} (hi : i < X.length) : gone X i X.length = gone X (i + 1) 0 := by
  unfold gone pairsOf
  rw [List.getElem?_eq_getElem hi]
  simp only [List.take_length, List.take_zero, List.filter_nil, List.length_nil]
  rw [List.take_add_one, List.getElem?_eq_getElem hi, Option.toList_some, List.map_append, List.sum_append]
  cases X[i + 1]? <;> simp
theorem gone_end (X : List Wr) : gone X X.length 0 = pairsOf X X := by
  unfold gone
  rw [List.take_length, List.getElem?_eq_none (Nat.le_refl _)]
  rfl
theorem gone_mono {X : List Wr} {i : Nat} (hi : i < X.length) : ∀ (k : Nat), k ≤ X.length → gone X i k ≤ gone X i X.length := by
  intro k hk
  obtain ⟨d, hd⟩ : ∃ d, X.length = k + d := ⟨X.length - k, by omega⟩
  induction d generalizing k with
  | zero => rw [hd]; exact Nat.le_refl _
  | succ d ih =>
    refine Nat.le_trans ?_ (ih (k + 1) (by omega) (by omega))
    rw [gone_step hi (by omega)]
    omega
theorem gone_le {X : List Wr} : ∀ (d i k : Nat), X.length = i + d → k ≤ X.length → gone X i k ≤ pairsOf X X
  | 0, i, k, hd, hk => by
    have : gone X i k = gone X X.length 0 := by
      have e : i = X.length := by omega
      subst e
      unfold gone
      rw [List.getElem?_eq_none (Nat.le_refl _)]
    rw [this, gone_end]
    exact Nat.le_refl _
  | d + 1, i, k, hd, hk => by
    refine Nat.le_trans (gone_mono (by omega) k hk) ?_
    rw [gone_row (by omega)]
    exact gone_le d (i + 1) 0 (by omega) (Nat.zero_le _)
end Go.Proofs.Ytgppgecglkellaa
namespace Go.Proofs.Ytgppgecglkellaa
open Go.RowKit
attribute [local go_sem] less_eq same_eq le_eq ge_eq gt_eq

end Go.Proofs.Ytgppgecglkellaa
namespace Go.Proofs.Ytgppgecglkellaa
open Go.RowKit

/-- one act, as it came in -/
structure MAct where
  what : Int
  ver : Int
  span : K × K
  v : Value
  ts : List TxV
def encMA (a : MAct) : List Value := [.int .i64 a.what, .int .i64 a.ver, .string a.span.1, .string a.span.2, a.v]
theorem encMA_len (a : MAct) : (encMA a).length = 5 := rfl
theorem RdMA.at {w : World} {B : Nat} {v : Value} {l : List MAct} (h : Rd encMA 5 w B v l) : ∃ A c, v = .slice A l.length c ∧ l.length ≤ c ∧ ∀ i (_ : i < l.length), ∃ b o, A = some ⟨b, o, none⟩ ∧ b < B ∧
    w.cell? ⟨b, o + i * 5, none⟩ = some (.int .i64 l[i].what) ∧ w.cell? ⟨b, o + i * 5 + 1, none⟩ = some (.int .i64 l[i].ver) ∧ w.cell? ⟨b, o + i * 5 + 2, none⟩ = some (.string l[i].span.1) ∧ w.cell? ⟨b, o + i * 5 + 3, none⟩ = some (.string l[i].span.2) ∧ w.cell? ⟨b, o + i * 5 + 4, none⟩ = some l[i].v := by
  obtain ⟨A, c, hv, hc, hi⟩ := h
  refine ⟨A, c, hv, hc, fun i hs => ?_⟩
  obtain ⟨b, o, hA, hB, h1⟩ := hi i hs
  exact ⟨b, o, hA, hB, h1 0 _ rfl, h1 1 _ rfl, h1 2 _ rfl, h1 3 _ rfl, h1 4 _ rfl⟩
/-- transactions that came in: none of them in a new block -/
structure TxOk (w : World) (v : Value) (ts : List TxV) : Prop where
  rd : RdTx w w.heap.size (fun _ => False) v ts
  fit : ∀ x ∈ ts, fitT x.t
  read : ∀ x ∈ ts, I64 x.t.read
theorem TxOk.next {w w' : World} {v : Value} {ts : List TxV} (h : TxOk w v ts) (hb : Below w.heap.size w w') : RdTx w' w.heap.size (fun _ => False) v ts :=
  h.rd.mv (Mv.of_below hb) (Nat.le_refl _) (fun b h1 h2 => by omega)
/-- and none of them in a block of marks that were made since -/
theorem TxOk.off {w w' : World} {v : Value} {ts : List TxV} {q n : Nat} {G : Nat → Prop} {m : Mk} (h : TxOk w v ts) (hb : Below w.heap.size w w') (hm : MkAt w' w.heap.size q G n m) : RdTx w' w'.heap.size G v ts :=
  (h.next hb).mono hb.size (fun b h1 h2 => by have := (hm.low.2 b h2).1; omega)

section
variable {w w' : World} {base q r g n n' n1 : Nat} {G G' : Nat → Prop} {ov ov' : Option Nat} {m m0 m1 : Mk}
end
theorem jout_len (m : Mk) (v : Int) (ts : List Txn) : (jout m v ts).length ≤ 4 := by
  unfold jout
  split
  · rename_i h
    rw [judgeL_len]
    exact (jerr_ok h).2.2.1
  · simp
theorem jnext_ok {m : Mk} (h : m.Ok) (v : Int) (ts : List Txn) (hv : v < 9223372036854775808) : (jnext m v ts).Ok := h.jnext ts hv
end Go.Proofs.Ytgppgecglkellaa
namespace Go.Proofs.Ytgppgecglkellaa
open Go.RowKit

/-- a transaction that came in -/
structure TxIn (w : World) (t : Txn) (v1 v2 : Value) : Prop where
  reads : RdP w w.heap.size v1 t.reads
  chgs : RdC w w.heap.size v2 t.chgs
  fit : fitT t
  read : I64 t.read
theorem TxIn.again {w : World} {t : Txn} {v1 v2 : Value} (h : TxIn w t v1 v2) {r : Int} (hr : I64 r) : TxIn w { t with read := r } v1 v2 := ⟨h.reads, h.chgs, h.fit, hr⟩
theorem TxIn.slices {w : World} {t : Txn} {v1 v2 : Value} (h : TxIn w t v1 v2) : ∃ A1 c1 A2 c2, v1 = .slice A1 t.reads.length c1 ∧ v2 = .slice A2 t.chgs.length c2 := by
  obtain ⟨A1, c1, e1, _, _⟩ := h.reads.at
  obtain ⟨A2, c2, e2, _, _⟩ := h.chgs.at
  exact ⟨A1, c1, A2, c2, e1, e2⟩
theorem TxIn.part {w w' : World} {t : Txn} {v1 v2 : Value} {G : Nat → Prop} (h : TxIn w t v1 v2) (hb : Below w.heap.size w w') (hG : ∀ i, G i → w.heap.size ≤ i) : RdG cellsS 2 w' w'.heap.size G v1 t.reads ∧ RdG encC 3 w' w'.heap.size G v2 t.chgs :=
  ⟨(RdG.of (h.reads.below hb (Nat.le_refl _)) (fun b h1 h2 => by have := hG b h2; omega)).mono hb.size (fun _ _ h => h), (RdG.of (h.chgs.below hb (Nat.le_refl _)) (fun b h1 h2 => by have := hG b h2; omega)).mono hb.size (fun _ _ h => h)⟩
/-- one transaction in a new block -/
theorem RdTx.one {w' : World} {g : Nat} {G : Nat → Prop} {x : TxV} (hW : Whole w' g 44 [.int .i64 x.t.read, x.v1, x.v2]) (hp : RdG cellsS 2 w' w'.heap.size G x.v1 x.t.reads ∧ RdG encC 3 w' w'.heap.size G x.v2 x.t.chgs) (hG : ¬ G g) : RdTx w' w'.heap.size G (.slice (some ⟨g, 0, none⟩) 1 1) [x] :=
  ⟨Whole.rdg encTx_len (l := [x]) hW (Nat.le_refl 1) hW.size hG, fun y hy => by rw [List.mem_singleton] at hy; subst hy; exact hp⟩
theorem RdTx.two {w' : World} {g : Nat} {G : Nat → Prop} {x y : TxV} (hW : Whole w' g 44 [.int .i64 x.t.read, x.v1, x.v2, .int .i64 y.t.read, y.v1, y.v2]) (hp : RdG cellsS 2 w' w'.heap.size G x.v1 x.t.reads ∧ RdG encC 3 w' w'.heap.size G x.v2 x.t.chgs) (hp2 : RdG cellsS 2 w' w'.heap.size G y.v1 y.t.reads ∧ RdG encC 3 w' w'.heap.size G y.v2 y.t.chgs) (hG : ¬ G g) : RdTx w' w'.heap.size G (.slice (some ⟨g, 0, none⟩) 2 2) [x, y] :=
  ⟨Whole.rdg encTx_len (l := [x, y]) hW (Nat.le_refl 2) hW.size hG, fun z hz => by
    simp only [List.mem_cons, List.not_mem_nil, or_false] at hz
    rcases hz with rfl | rfl
    · exact hp
    · exact hp2⟩
theorem RdG.take {α : Type} {enc : α → List Value} {k : Nat} {w : World} {B : Nat} {G : Nat → Prop} {A : Option Addr} {c m : Nat} {l : List α} (h : RdG enc k w B G (.slice A m c) l) (n : Nat) (hn : n ≤ l.length) : RdG enc k w B G (.slice A n c) (l.take n) := by
  obtain ⟨A', c', hv, hc, hi⟩ := h
  injection hv with h1 h2 h3
  subst h1 h3
  refine ⟨A, c, by simp [Nat.min_eq_left hn], by simp; omega, fun i hs => ?_⟩
  have hs' : i < l.length := by simp at hs; omega
  obtain ⟨b, o, hA, hB, hg, h1⟩ := hi i hs'
  exact ⟨b, o, hA, hB, hg, fun j u hu => h1 j u (by simpa using hu)⟩
theorem TxOk.take {w : World} {A : Option Addr} {c m : Nat} {ts : List TxV} (h : TxOk w (.slice A m c) ts) (n : Nat) (hn : n ≤ ts.length) : TxOk w (.slice A n c) (ts.take n) :=
  ⟨⟨h.rd.row.take n hn, fun x hx => h.rd.parts x (List.mem_of_mem_take hx)⟩, fun x hx => h.fit x (List.mem_of_mem_take hx), fun x hx => h.read x (List.mem_of_mem_take hx)⟩

/-! ### pure -/
theorem jnext_low {m : Mk} (h : m.Ok) {v : Int} {ts : List Txn} (he : jerr m v ts = 0) (hv : v < 9223372036854775808) : (jnext m v ts).Ok ∧ (jnext m v ts).most ≤ v ∧ (jnext m v ts).floor = m.floor := by
  have := jerr_ok he
  unfold jnext
  rw [if_pos he]
  exact Mk.Ok.judgeM ts h (by omega) hv
theorem jerr_one {m : Mk} {v : Int} {t : Txn} (h1 : m.floor < v) (h2 : m.most < v) (hs : soundT t) : jerr m v [t] = 0 := by
  unfold jerr
  rw [if_neg (by omega), if_neg]
  rintro (h | ⟨u, hu, hn⟩)
  · simp at h
  · rw [List.mem_singleton] at hu; subst hu; exact hn hs
theorem jone {m : Mk} {v : Int} {t : Txn} (he : jerr m v [t] = 0) : jout m v [t] = [verd m t] ∧ jnext m v [t] = judge1 m v t := by
  unfold jout jnext
  rw [if_pos he, if_pos he]
  exact ⟨rfl, rfl⟩
theorem verd_fine {m : Mk} {t : Txn} (h1 : t.reads = [] ∨ m.floor ≤ t.read) (h2 : ∀ k, m.f k ≤ m.floor ∨ m.f k ≤ t.read) : verd m t = 1 := by
  unfold verd
  rw [if_neg (by rintro ⟨h3, h4⟩; rcases h1 with h1 | h1; exact h3 h1; omega), if_neg]
  rintro ⟨s, _, k, _, h3, h4⟩
  rcases h2 k with h5 | h5 <;> omega
theorem verd_blind {m : Mk} {t : Txn} (h : t.reads = []) : verd m t = 1 := by
  unfold verd
  rw [if_neg (fun h3 => h3.1 h), if_neg]
  rintro ⟨s, hs, _⟩
  rw [h] at hs
  simp at hs
end Go.Proofs.Ytgppgecglkellaa
namespace Go.Proofs.Ytgppgecglkellaa
open Go.ChangeShapes Go.WideShapes Go.ChangeAt Go.RowKit Go.Joins Go.Deep

def PairD {H : Type} (s : K × K) (d : DataW H) : Prop := d = .agg [.lit (.string s.1.data.toList), .lit (.string s.2.data.toList)]
def ChgD {H : Type} (c : Chg) (d : DataW H) : Prop := ∃ y, d = .agg [y, .lit (.string c.key.data.toList), .lit (.string c.val.data.toList)]

section
variable {H : Type} {enc : TypeId × Value → H} {w : World} {base : Nat} {spare : Nat → Bool} {held : Bool}
set_option maxRecDepth 100000 in
theorem span_of_cells {fuel : Nat} {cs : List Value} {x : DataW H × List MemPlace} (h : DataW.trod enc Try.prog w base spare held fuel 58 cs = some x) : ∃ s : K × K, cs = cellsS s ∧ PairD s x.1 := by
  obtain ⟨y0, y1, n, hx, hlen, h0, h1⟩ := trod_struct2 Try.underlying58 h
  rw [show Try.prog.cellsOf 58 = 2 by kernel_rfl] at hlen
  match cs, hlen with
  | [u, v], _ =>
    have c9 : Try.prog.cellsOf 9 = 1 := by kernel_rfl
    simp [c9] at h0 h1
    obtain ⟨a, ea, xa, ha⟩ := DataW.trod_string Try.underlying9 h0
    obtain ⟨b, eb, xb, hb⟩ := DataW.trod_string Try.underlying9 h1
    simp at ea eb
    exact ⟨(a, b), by rw [ea, eb]; rfl, by rw [hx, xa, xb]; rfl⟩
set_option maxRecDepth 100000 in
theorem chg_of_cells {fuel : Nat} {cs : List Value} {x : DataW H × List MemPlace} (h : DataW.trod enc Try.prog w base spare held fuel 40 cs = some x) : ∃ s : Chg, cs = encC s ∧ ChgD s x.1 := by
  obtain ⟨y0, y1, y2, n, hx, hlen, h0, h1, h2⟩ := trod_struct3 Try.underlying40 h
  rw [show Try.prog.cellsOf 40 = 3 by kernel_rfl] at hlen
  match cs, hlen with
  | [u, v, t], _ =>
    have c9 : Try.prog.cellsOf 9 = 1 := by kernel_rfl
    have c3 : Try.prog.cellsOf 3 = 1 := by kernel_rfl
    simp [c9, c3] at h0 h1 h2
    obtain ⟨m, em, _, _⟩ := DataW.trod_int Try.underlying3 h0
    obtain ⟨a, ea, xa, ha⟩ := DataW.trod_string Try.underlying9 h1
    obtain ⟨b, eb, xb, hb⟩ := DataW.trod_string Try.underlying9 h2
    simp at em ea eb
    exact ⟨⟨m, a, b⟩, by rw [em, ea, eb]; rfl, y0.1, by rw [hx, xa, xb]⟩
end
set_option maxRecDepth 100000 in
theorem SizedL.lenC {H : Type} {d : DataW H} {l : List Chg} (hs : SizedL ChgD d l) (hw : ∀ n ∈ d.weights Try.prog 41, n ≤ reachBytes) : l.length < 4611686018427387904 ∧ ∀ c ∈ l, smallC c := by
  rcases hs with ⟨_, rfl⟩ | ⟨el, sp, rfl, he, hall⟩
  · simp
  · have h1 := slice_len Try.underlying41 hw
    rw [show Try.prog.bytesOf 40 = 40 by kernel_rfl] at h1
    refine ⟨by omega, fun s hs => ?_⟩
    obtain ⟨i, hi, rfl⟩ := List.getElem_of_mem hs
    obtain ⟨d', h2, y, rfl⟩ := hall i hi
    have hm : ∀ n, n ∈ (DataW.agg [y, .lit (.string l[i].key.data.toList), .lit (.string l[i].val.data.toList)]).weights Try.prog 40 → n ≤ reachBytes := fun n hn => hw n (weights_el Try.underlying41 h2 hn)
    have a := hm l[i].key.data.toList.length (by simp [DataW.weights, DataW.weightsEach, Try.underlying40])
    have b := hm l[i].val.data.toList.length (by simp [DataW.weights, DataW.weightsEach, Try.underlying40])
    rw [show reachBytes = 140737488351232 from rfl] at a b
    have e : ∀ k : K, k.data.toList.length = k.size := fun k => by simp
    rw [e] at a b
    exact ⟨by omega, by omega⟩
set_option maxRecDepth 100000 in
theorem SizedL.lenS {H : Type} {d : DataW H} {l : List (K × K)} (hs : SizedL PairD d l) (hw : ∀ n ∈ d.weights Try.prog 42, n ≤ reachBytes) : l.length < 4611686018427387904 ∧ ∀ s ∈ l, s.1.size < 4611686018427387904 ∧ s.2.size < 4611686018427387904 := by
  rcases hs with ⟨_, rfl⟩ | ⟨el, sp, rfl, he, hall⟩
  · simp
  · have h1 := slice_len Try.underlying42 hw
    rw [show Try.prog.bytesOf 58 = 32 by kernel_rfl] at h1
    refine ⟨by omega, fun s hs => ?_⟩
    obtain ⟨i, hi, rfl⟩ := List.getElem_of_mem hs
    obtain ⟨d', h2, h3⟩ := hall i hi
    unfold PairD at h3
    subst h3
    have hm : ∀ n, n ∈ (DataW.agg [.lit (.string l[i].1.data.toList), .lit (.string l[i].2.data.toList)]).weights Try.prog 58 → n ≤ reachBytes := fun n hn => hw n (weights_el Try.underlying42 h2 hn)
    have a := hm l[i].1.data.toList.length (by simp [DataW.weights, DataW.weightsEach, Try.underlying58])
    have b := hm l[i].2.data.toList.length (by simp [DataW.weights, DataW.weightsEach, Try.underlying58])
    rw [show reachBytes = 140737488351232 from rfl] at a b
    have e : ∀ k : K, k.data.toList.length = k.size := fun k => by simp
    rw [e] at a b
    exact ⟨by omega, by omega⟩
/-- what is known of a transaction's data -/
def TxD {H : Type} (W : World) (x : TxV) (d : DataW H) : Prop := RdP W W.heap.size x.v1 x.t.reads ∧ RdC W W.heap.size x.v2 x.t.chgs ∧ I64 x.t.read ∧ ∃ y0 y1 y2, d = .agg [y0, y1, y2] ∧ SizedL PairD y1 x.t.reads ∧ SizedL ChgD y2 x.t.chgs
section
variable {H : Type} {enc : TypeId × Value → H} {W : World}
set_option maxRecDepth 100000 in
theorem spans_of_slice {v : Value} {d : DataW H} {p : List MemPlace} (hv : ∃ a len cap, v = .slice a len cap) (h : DataW.Trod enc Try.prog W 0 (fun _ => true) true 42 v d p) : ∃ l, RdP W W.heap.size v l ∧ SizedL PairD d l :=
  haveI : Inhabited (K × K) := ⟨(⟨#[]⟩, ⟨#[]⟩)⟩
  open_rowsF (by decide) cellsS_len Try.underlying42 (by kernel_rfl) _ (fun _ _ _ h => span_of_cells h) hv h
set_option maxRecDepth 100000 in
theorem chgs_of_slice {v : Value} {d : DataW H} {p : List MemPlace} (hv : ∃ a len cap, v = .slice a len cap) (h : DataW.Trod enc Try.prog W 0 (fun _ => true) true 41 v d p) : ∃ l, RdC W W.heap.size v l ∧ SizedL ChgD d l :=
  haveI : Inhabited Chg := ⟨⟨0, ⟨#[]⟩, ⟨#[]⟩⟩⟩
  open_rowsF (by decide) encC_len Try.underlying41 (by kernel_rfl) _ (fun _ _ _ h => chg_of_cells h) hv h
set_option maxRecDepth 100000 in
theorem tx_of_cells {fuel : Nat} {cs : List Value} {x : DataW H × List MemPlace} (h : DataW.trod enc Try.prog W 0 (fun _ => true) true fuel 44 cs = some x) : ∃ a : TxV, cs = encTx a ∧ TxD W a x.1 := by
  obtain ⟨y0, y1, y2, n, hx, hlen, h0, h1, h2⟩ := trod_struct3 Try.underlying44 h
  rw [show Try.prog.cellsOf 44 = 3 by kernel_rfl] at hlen
  match cs, hlen with
  | [u, v, t], _ =>
    have c3 : Try.prog.cellsOf 3 = 1 := by kernel_rfl
    have cs1 : Try.prog.cellsOf 42 = 1 := by kernel_rfl
    have cc1 : Try.prog.cellsOf 41 = 1 := by kernel_rfl
    simp [c3, cs1, cc1] at h0 h1 h2
    obtain ⟨i0, e0, _, w0⟩ := DataW.trod_int Try.underlying3 h0
    simp at e0
    obtain ⟨hs1, ht1⟩ := slice_of Try.underlying42 h1
    obtain ⟨hs2, ht2⟩ := slice_of Try.underlying41 h2
    obtain ⟨l1, hr1, hz1⟩ := spans_of_slice hs1 ht1
    obtain ⟨l2, hr2, hz2⟩ := chgs_of_slice hs2 ht2
    exact ⟨⟨⟨i0, l1, l2⟩, v, t⟩, by rw [e0]; rfl, hr1, hr2, int_of_wf w0, y0.1, y1.1, y2.1, by rw [hx], hz1, hz2⟩
set_option maxRecDepth 100000 in
theorem TxD.fit {x : TxV} {d : DataW H} (h : TxD W x d) (hw : ∀ n ∈ d.weights Try.prog 44, n ≤ reachBytes) : fitT x.t := by
  obtain ⟨_, _, _, y0, y1, y2, rfl, hz1, hz2⟩ := h
  have q1 := hz1.lenS (fun n hn => hw n (by simp only [DataW.weights, Try.underlying44, List.map_cons, List.map_nil, DataW.weightsEach, List.mem_append]; simp only [hn, true_or, or_true]))
  have q2 := hz2.lenC (fun n hn => hw n (by simp only [DataW.weights, Try.underlying44, List.map_cons, List.map_nil, DataW.weightsEach, List.mem_append]; simp only [hn, true_or, or_true]))
  exact ⟨q1.1, q1.2, q2.1, q2.2⟩
set_option maxRecDepth 100000 in
theorem txs_of_slice {v : Value} {d : DataW H} {p : List MemPlace} (hv : ∃ a len cap, v = .slice a len cap) (h : DataW.Trod enc Try.prog W 0 (fun _ => true) true 22 v d p) : ∃ l, Rd encTx 3 W W.heap.size v l ∧ SizedL (TxD W) d l :=
  haveI : Inhabited TxV := ⟨⟨zeroT, .bool false, .bool false⟩⟩
  open_rowsF (e2 := encTx) (k := 3) (by decide) encTx_len Try.underlying22 (by kernel_rfl) (TxD W) (fun _ _ _ h => tx_of_cells h) hv h
set_option maxRecDepth 100000 in
theorem tx_ok {v : Value} {d : DataW H} {l : List TxV} (hr : Rd encTx 3 W W.heap.size v l) (hz : SizedL (TxD W) d l) (hw : ∀ n ∈ d.weights Try.prog 22, n ≤ reachBytes) : TxOk W v l := by
  have hall : ∀ x ∈ l, RdP W W.heap.size x.v1 x.t.reads ∧ RdC W W.heap.size x.v2 x.t.chgs ∧ I64 x.t.read ∧ fitT x.t := by
    rcases hz with ⟨_, rfl⟩ | ⟨el, sp, rfl, he, hall⟩
    · simp
    · intro s hs
      obtain ⟨i, hi, rfl⟩ := List.getElem_of_mem hs
      obtain ⟨d', h1, h2⟩ := hall i hi
      exact ⟨h2.1, h2.2.1, h2.2.2.1, h2.fit fun n hn => hw n (weights_el Try.underlying22 h1 hn)⟩
  exact ⟨⟨RdG.of hr (fun _ _ h => h), fun x hx => ⟨RdG.of (hall x hx).1 (fun _ _ h => h), RdG.of (hall x hx).2.1 (fun _ _ h => h)⟩⟩, fun x hx => (hall x hx).2.2.2, fun x hx => (hall x hx).2.2.1⟩
def MActD {H : Type} (W : World) (a : MAct) (d : DataW H) : Prop := Rd encTx 3 W W.heap.size a.v a.ts ∧ I64 a.ver ∧ ∃ y0 y1 y2 y3, d = .agg [y0, y1, y2, y3] ∧ SizedL (TxD W) y3 a.ts
end
section
variable {H : Type} {enc : TypeId × Value → H} {W : World} {base : Nat} {v : Value} {d : DataW H} {p : List MemPlace}
set_option maxRecDepth 100000 in
theorem open_txs (hv : Value.okWide Try.prog W .any base 22 v) (h : DataW.Trod enc Try.prog W 0 (fun _ => true) true 22 v d p) (hw : ∀ n ∈ d.weights Try.prog 22, n ≤ reachBytes) : ∃ l, TxOk W v l := by
  obtain ⟨l, hr, hz⟩ := txs_of_slice (by obtain ⟨a, len, cap, rfl⟩ := okWide_slice Try.underlying22 hv; exact ⟨a, len, cap, rfl⟩) h
  exact ⟨l, tx_ok hr hz hw⟩
set_option maxRecDepth 100000 in
theorem open_slice_any (hv : Value.okWide Try.prog W .any base 22 v) : ∃ a len cap, v = .slice a len cap := by
  obtain ⟨a, len, cap, rfl⟩ := okWide_slice Try.underlying22 hv
  exact ⟨a, len, cap, rfl⟩
set_option maxRecDepth 100000 in
theorem open_mchgs (hv : Value.okWide Try.prog W .any base 41 v) (h : DataW.Trod enc Try.prog W 0 (fun _ => true) true 41 v d p) (hw : ∀ n ∈ d.weights Try.prog 41, n ≤ reachBytes) : ∃ l, TxIn W ⟨0, [], l⟩ (.slice none 0 0) v := by
  obtain ⟨l, hr, hz⟩ := chgs_of_slice (by obtain ⟨a, len, cap, rfl⟩ := okWide_slice Try.underlying41 hv; exact ⟨a, len, cap, rfl⟩) h
  have q := hz.lenC hw
  exact ⟨l, ⟨none, 0, rfl, Nat.zero_le _, fun i hi => by simp at hi⟩, hr, ⟨by simp, by simp, q.1, q.2⟩, by show I64 0; unfold I64; omega⟩
set_option maxRecDepth 100000 in
theorem open_mtxn (hv : Value.okWide Try.prog W .any base 44 v) (h : DataW.Trod enc Try.prog W 0 (fun _ => true) true 44 v d p) (hw : ∀ n ∈ d.weights Try.prog 44, n ≤ reachBytes) :
    ∃ (t : Txn) (x1 x2 : Value), v = tval t x1 x2 ∧ TxIn W t x1 x2 := by
  obtain ⟨v0, v1, v2, y0, y1, y2, n, rfl, rfl, _, h0, h1, h2⟩ := open_agg3 Try.underlying44 (by kernel_rfl) (by kernel_rfl) hv h
  obtain ⟨i0, e0, _, g0⟩ := DataW.trod_int Try.underlying3 h0
  simp at e0
  obtain ⟨hs1, ht1⟩ := slice_of Try.underlying42 h1
  obtain ⟨hs2, ht2⟩ := slice_of Try.underlying41 h2
  obtain ⟨l1, hr1, hz1⟩ := spans_of_slice hs1 ht1
  obtain ⟨l2, hr2, hz2⟩ := chgs_of_slice hs2 ht2
  have q1 := hz1.lenS (fun n hn => hw n (by simp only [DataW.weights, Try.underlying44, List.map_cons, List.map_nil, DataW.weightsEach, List.mem_append]; simp only [hn, true_or, or_true]))
  have q2 := hz2.lenC (fun n hn => hw n (by simp only [DataW.weights, Try.underlying44, List.map_cons, List.map_nil, DataW.weightsEach, List.mem_append]; simp only [hn, true_or, or_true]))
  exact ⟨⟨i0, l1, l2⟩, v1, v2, by rw [e0]; rfl, hr1, hr2, ⟨q1.1, q1.2, q2.1, q2.2⟩, int_of_wf g0⟩
set_option maxRecDepth 100000 in
theorem open_chg (hv : Value.okWide Try.prog W .any base 40 v) (h : DataW.Trod enc Try.prog W 0 (fun _ => true) true 40 v d p) (hw : ∀ n ∈ d.weights Try.prog 40, n ≤ reachBytes) :
    ∃ c : Chg, v = cval c ∧ smallC c := by
  obtain ⟨a0, b0, c0, y0, z0, x0, m0, rfl, rfl, rfl, hy, hz, hx⟩ := open_agg3 Try.underlying40 (by kernel_rfl) (by kernel_rfl) hv h
  obtain ⟨k, ek, xk, _⟩ := DataW.trod_int Try.underlying3 hy
  obtain ⟨a, ea, xa, _⟩ := DataW.trod_string Try.underlying9 hz
  obtain ⟨b, eb, xb, _⟩ := DataW.trod_string Try.underlying9 hx
  simp at ek ea eb
  subst ek ea eb
  rw [xk, xa, xb] at hw
  have h1 := hw a.data.toList.length (by simp [DataW.weights, DataW.weightsEach, Try.underlying40])
  have h2 := hw b.data.toList.length (by simp [DataW.weights, DataW.weightsEach, Try.underlying40])
  rw [show reachBytes = 140737488351232 from rfl] at h1 h2
  have e : ∀ k : K, k.data.toList.length = k.size := fun k => by simp
  rw [e] at h1 h2
  exact ⟨⟨k, a, b⟩, rfl, by simp only; omega, by simp only; omega⟩
set_option maxRecDepth 100000 in
theorem open_span (hv : Value.okWide Try.prog W .any base 58 v) (h : DataW.Trod enc Try.prog W 0 (fun _ => true) true 58 v d p) (hw : ∀ n ∈ d.weights Try.prog 58, n ≤ reachBytes) :
    ∃ s : K × K, v = .agg #[.string s.1, .string s.2] ∧ s.1.size < 4611686018427387904 ∧ s.2.size < 4611686018427387904 := by
  obtain ⟨a0, b0, y0, z0, m0, rfl, rfl, rfl, hy, hz⟩ := open_agg2 Try.underlying58 (by kernel_rfl) (by kernel_rfl) hv h
  obtain ⟨a, ea, xa, _⟩ := DataW.trod_string Try.underlying9 hy
  obtain ⟨b, eb, xb, _⟩ := DataW.trod_string Try.underlying9 hz
  simp at ea eb
  subst ea eb
  rw [xa, xb] at hw
  have h1 := hw a.data.toList.length (by simp [DataW.weights, DataW.weightsEach, Try.underlying58])
  have h2 := hw b.data.toList.length (by simp [DataW.weights, DataW.weightsEach, Try.underlying58])
  rw [show reachBytes = 140737488351232 from rfl] at h1 h2
  have e : ∀ k : K, k.data.toList.length = k.size := fun k => by simp
  rw [e] at h1 h2
  exact ⟨(a, b), rfl, by simp only; omega, by simp only; omega⟩
end
end Go.Proofs.Ytgppgecglkellaa
namespace Go.Proofs.Ytgppgecglkellaa

structure Rf where
  epoch : Int
  version : Int
  mks : Mk
  judged : Bool
  told : List Int
namespace Rf
def new : Rf := ⟨0, 0, mnew 0, false, []⟩
def begin_ (r : Rf) (e v : Int) : Int × Rf := if e < 1 ∨ v < 0 then (1, r) else if e < r.epoch then (7, r) else if e = r.epoch then (0, r) else (0, ⟨e, v, mnew v, false, []⟩)
open Classical in
noncomputable def judge (r : Rf) (e p v : Int) (ts : List Txn) : List Int × Int × Rf :=
  if e ≠ r.epoch ∨ r.epoch = 0 then ([], 4, r) else
  if v = r.version ∧ r.judged = true then (r.told, 0, r) else
  if v < r.version then ([], 7, r) else
  if p ≠ r.version ∨ v = r.version then ([], 9, r) else
  if jerr r.mks v ts ≠ 0 then ([], jerr r.mks v ts, r) else
  (jout r.mks v ts, 0, ⟨r.epoch, v, fnext (jnext r.mks v ts) (v - 100), true, jout r.mks v ts⟩)
theorem judge_new {r : Rf} {e p v : Int} {ts : List Txn} (h1 : e = r.epoch) (h2 : r.epoch ≠ 0) (h3 : r.version < v) (h4 : p = r.version) (h5 : jerr r.mks v ts = 0) :
    r.judge e p v ts = (jout r.mks v ts, 0, ⟨r.epoch, v, fnext (jnext r.mks v ts) (v - 100), true, jout r.mks v ts⟩) := by
  unfold judge
  rw [if_neg (by rintro (h | h); exact h h1; exact h2 h), if_neg (by omega), if_neg (by omega), if_neg (by omega), if_neg (by simpa using h5)]
theorem judge_bad {r : Rf} {e p v : Int} {ts : List Txn} (h1 : e = r.epoch) (h2 : r.epoch ≠ 0) (h3 : r.version < v) (h4 : p = r.version) (h5 : jerr r.mks v ts ≠ 0) :
    r.judge e p v ts = ([], jerr r.mks v ts, r) := by
  unfold judge
  rw [if_neg (by rintro (h | h); exact h h1; exact h2 h), if_neg (by omega), if_neg (by omega), if_neg (by omega), if_pos h5]
theorem judge_again {r : Rf} {e p v : Int} {ts : List Txn} (h1 : e = r.epoch) (h2 : r.epoch ≠ 0) (h3 : v = r.version) (h4 : r.judged = true) : r.judge e p v ts = (r.told, 0, r) := by
  unfold judge
  rw [if_neg (by rintro (h | h); exact h h1; exact h2 h), if_pos ⟨h3, h4⟩]
theorem judge_old {r : Rf} {e p v : Int} {ts : List Txn} (h1 : e = r.epoch) (h2 : r.epoch ≠ 0) (h3 : v < r.version) : r.judge e p v ts = ([], 7, r) := by
  unfold judge
  rw [if_neg (by rintro (h | h); exact h h1; exact h2 h), if_neg (by omega), if_pos h3]
theorem judge_order {r : Rf} {e p v : Int} {ts : List Txn} (h1 : e = r.epoch) (h2 : r.epoch ≠ 0) (h3 : r.version < v) (h4 : p ≠ r.version) : r.judge e p v ts = ([], 9, r) := by
  unfold judge
  rw [if_neg (by rintro (h | h); exact h h1; exact h2 h), if_neg (by omega), if_neg (by omega), if_pos (.inl h4)]
theorem judge_none {r : Rf} {e p v : Int} {ts : List Txn} (h1 : e ≠ r.epoch) : r.judge e p v ts = ([], 4, r) := by
  unfold judge
  rw [if_pos (.inl h1)]
theorem judge_zero {r : Rf} {e p v : Int} {ts : List Txn} (h1 : r.epoch = 0) : r.judge e p v ts = ([], 4, r) := by
  unfold judge
  rw [if_pos (.inr h1)]
theorem judge_stop {r : Rf} {e p : Int} {ts : List Txn} (h1 : e = r.epoch) (h2 : r.epoch ≠ 0) (h3 : r.judged = false) : r.judge e p r.version ts = ([], 9, r) := by
  unfold judge
  rw [if_neg (by rintro (h | h); exact h h1; exact h2 h), if_neg (by rw [h3]; simp), if_neg (by omega), if_pos (.inr rfl)]
theorem begin_new (e v : Int) (h1 : 1 ≤ e) (h2 : 0 ≤ v) : new.begin_ e v = (0, ⟨e, v, mnew v, false, []⟩) := by
  unfold begin_ new
  simp only
  rw [if_neg (by omega), if_neg (by omega), if_neg (by omega)]
theorem begin_later {r : Rf} {e v : Int} (h1 : 1 ≤ e) (h2 : 0 ≤ v) (h3 : r.epoch < e) : r.begin_ e v = (0, ⟨e, v, mnew v, false, []⟩) := by
  unfold begin_
  rw [if_neg (by omega), if_neg (by omega), if_neg (by omega)]
theorem begin_elder {r : Rf} {e v : Int} (h1 : 1 ≤ e) (h2 : 0 ≤ v) (h3 : e < r.epoch) : r.begin_ e v = (7, r) := by
  unfold begin_
  rw [if_neg (by omega), if_pos h3]
theorem begin_same {r : Rf} {e v : Int} (h1 : 1 ≤ e) (h2 : 0 ≤ v) (h3 : e = r.epoch) : r.begin_ e v = (0, r) := by
  unfold begin_
  rw [if_neg (by omega), if_neg (by omega), if_pos h3]
end Rf
theorem jerr_nil {m : Mk} {v : Int} (h1 : m.floor < v) (h2 : m.most < v) : jerr m v [] = 0 := by
  unfold jerr
  rw [if_neg (by omega), if_neg (by simp)]
theorem jnil (m : Mk) (v : Int) : jout m v [] = [] ∧ jnext m v [] = m := by
  unfold jout jnext
  constructor
  · split <;> rfl
  · split <;> rfl
end Go.Proofs.Ytgppgecglkellaa
