/- Lists of lists of ints, and lists of transactions, as they are read. Arguments of the verdict laws as data: transactions, lists of them, lists of ints, lists of those. What the loops that put verdicts together hold; pure. A slice made of n elements of k cells each: all of them the zero of their type. The program's verdicts, the small calls: worse, Fill, known; what is put together place by place. slices.IndexFunc and slices.ContainsFunc at lists and at spans. -/
import Derived.Test.YtmakgjokadcfjaaFab
import Derived.Test.YtmakgjokadcfjaaFaa
namespace Go.Proofs.Ytmakgjokadcfjaa
open Go.RowKit

/-- a list and where it is -/
structure LI where
  l : List Int
  A : Option Addr
  c : Nat
def LI.v (e : LI) : Value := .slice e.A e.l.length e.c
def encLI (e : LI) : List Value := [e.v]
theorem encLI_len (e : LI) : (encLI e).length = 1 := rfl
theorem encLI_one (e : LI) : ∀ u ∈ encLI e, u.oneCell' = true := by simp [encLI, LI.v, Value.oneCell']
/-- lists that are read -/
structure RdLL (w : World) (B : Nat) (v : Value) (ls : List LI) : Prop where
  row : Rd encLI 1 w B v ls
  parts : ∀ e ∈ ls, RdI w B e.v e.l
theorem RdLL.below {w w' : World} {B C : Nat} {v : Value} {ls : List LI} (h : RdLL w B v ls) (hb : Below C w w') (hC : B ≤ C) : RdLL w' B v ls := ⟨h.row.below hb hC, fun e he => (h.parts e he).below hb hC⟩
theorem RdLL.mono {w : World} {B C : Nat} {v : Value} {ls : List LI} (h : RdLL w B v ls) (hC : B ≤ C) : RdLL w C v ls := ⟨h.row.mono hC, fun e he => (h.parts e he).mono hC⟩
theorem RdLL.next {w w' : World} {v : Value} {ls : List LI} (h : RdLL w w.heap.size v ls) (hb : Below w.heap.size w w') : RdLL w' w'.heap.size v ls := (h.below hb (Nat.le_refl _)).mono hb.size
theorem RdLL.at {w : World} {B : Nat} {v : Value} {ls : List LI} (h : RdLL w B v ls) : ∃ A c, v = .slice A ls.length c ∧ ls.length ≤ c ∧ ∀ i (_ : i < ls.length), ∃ b o, A = some ⟨b, o, none⟩ ∧ b < B ∧ w.cell? ⟨b, o + i, none⟩ = some (.slice ls[i].A ls[i].l.length ls[i].c) := by
  obtain ⟨A, c, hv, hc, hi⟩ := h.row
  refine ⟨A, c, hv, hc, fun i hs => ?_⟩
  obtain ⟨b, o, hA, hB, h1⟩ := hi i hs
  have := h1 0 _ rfl
  simp only [Nat.mul_one, Nat.add_zero] at this
  exact ⟨b, o, hA, hB, this⟩
/-- the same, in every world that keeps what stands below -/
theorem RdLL.keep {w : World} {B : Nat} {v : Value} {ls : List LI} (h : RdLL w B v ls) : ∃ A c, v = .slice A ls.length c ∧ ls.length ≤ c ∧ ∀ i (_ : i < ls.length), ∃ b o, A = some ⟨b, o, none⟩ ∧ ∀ W, Below B w W → W.cell? ⟨b, o + i, none⟩ = some (.slice ls[i].A ls[i].l.length ls[i].c) := by
  obtain ⟨A, c, hv, hc, hi⟩ := h.at
  refine ⟨A, c, hv, hc, fun i hs => ?_⟩
  obtain ⟨b, o, hA, hB, h1⟩ := hi i hs
  exact ⟨b, o, hA, fun W hW => (hW.cell (p := ⟨b, _, none⟩) hB).trans h1⟩
theorem RdI.keep {w : World} {B : Nat} {v : Value} {l : List Int} (h : RdI w B v l) : ∃ A c, v = .slice A l.length c ∧ l.length ≤ c ∧ ∀ i (_ : i < l.length), ∃ b o, A = some ⟨b, o, none⟩ ∧ ∀ W, Below B w W → W.cell? ⟨b, o + i, none⟩ = some (.int .i64 l[i]) := by
  obtain ⟨A, c, hv, hc, hi⟩ := h.at
  refine ⟨A, c, hv, hc, fun i hs => ?_⟩
  obtain ⟨b, o, hA, hB, h1⟩ := hi i hs
  exact ⟨b, o, hA, fun W hW => (hW.cell (p := ⟨b, _, none⟩) hB).trans h1⟩
/-- a transaction and where its spans and changes are -/
structure TxV where
  t : Txn
  v1 : Value
  v2 : Value
def encTx (x : TxV) : List Value := [.int .i64 x.t.read, x.v1, x.v2]
theorem encTx_len (x : TxV) : (encTx x).length = 3 := rfl
/-- transactions that are read -/
structure RdTs (w : World) (B : Nat) (v : Value) (l : List TxV) : Prop where
  row : Rd encTx 3 w B v l
  reads : ∀ x ∈ l, RdP w B x.v1 x.t.reads
  chgs : ∀ x ∈ l, RdC w B x.v2 x.t.chgs
theorem RdTs.below {w w' : World} {B C : Nat} {v : Value} {l : List TxV} (h : RdTs w B v l) (hb : Below C w w') (hC : B ≤ C) : RdTs w' B v l := ⟨h.row.below hb hC, fun e he => (h.reads e he).below hb hC, fun e he => (h.chgs e he).below hb hC⟩
theorem RdTs.mono {w : World} {B C : Nat} {v : Value} {l : List TxV} (h : RdTs w B v l) (hC : B ≤ C) : RdTs w C v l := ⟨h.row.mono hC, fun e he => (h.reads e he).mono hC, fun e he => (h.chgs e he).mono hC⟩
theorem RdTs.next {w w' : World} {v : Value} {l : List TxV} (h : RdTs w w.heap.size v l) (hb : Below w.heap.size w w') : RdTs w' w'.heap.size v l := (h.below hb (Nat.le_refl _)).mono hb.size
theorem RdTs.keep {w : World} {B : Nat} {v : Value} {l : List TxV} (h : RdTs w B v l) : ∃ A c, v = .slice A l.length c ∧ l.length ≤ c ∧ ∀ i (_ : i < l.length), ∃ b o, A = some ⟨b, o, none⟩ ∧ ∀ W, Below B w W →
    W.cell? ⟨b, o + i * 3, none⟩ = some (.int .i64 l[i].t.read) ∧ W.cell? ⟨b, o + i * 3 + 1, none⟩ = some l[i].v1 ∧ W.cell? ⟨b, o + i * 3 + 2, none⟩ = some l[i].v2 := by
  obtain ⟨A, c, hv, hc, hi⟩ := h.row
  refine ⟨A, c, hv, hc, fun i hs => ?_⟩
  obtain ⟨b, o, hA, hB, h1⟩ := hi i hs
  exact ⟨b, o, hA, fun W hW => ⟨(hW.cell (p := ⟨b, _, none⟩) hB).trans (h1 0 _ rfl), (hW.cell (p := ⟨b, _, none⟩) hB).trans (h1 1 _ rfl), (hW.cell (p := ⟨b, _, none⟩) hB).trans (h1 2 _ rfl)⟩⟩
theorem RdTs.take {w : World} {B : Nat} {A : Option Addr} {c m : Nat} {l : List TxV} (h : RdTs w B (.slice A m c) l) (n : Nat) (hn : n ≤ l.length) : RdTs w B (.slice A n c) (l.take n) :=
  ⟨h.row.take n hn, fun e he => h.reads e (List.mem_of_mem_take he), fun e he => h.chgs e (List.mem_of_mem_take he)⟩
end Go.Proofs.Ytmakgjokadcfjaa
namespace Go.Proofs.Ytmakgjokadcfjaa
open Go.ChangeShapes Go.WideShapes Go.ChangeAt Go.RowKit Go.Joins Go.Deep

def I64 (n : Int) : Prop := -9223372036854775808 ≤ n ∧ n < 9223372036854775808
def PairD {H : Type} (s : K × K) (d : DataW H) : Prop := d = .agg [.lit (.string s.1.data.toList), .lit (.string s.2.data.toList)]
def ChgD {H : Type} (c : Chg) (d : DataW H) : Prop := ∃ y, d = .agg [y, .lit (.string c.key.data.toList), .lit (.string c.val.data.toList)]

section
variable {H : Type} {enc : TypeId × Value → H} {w : World} {base : Nat} {spare : Nat → Bool} {held : Bool}
set_option maxRecDepth 100000 in
theorem span_of_cells {fuel : Nat} {cs : List Value} {x : DataW H × List MemPlace} (h : DataW.trod enc Try.prog w base spare held fuel 52 cs = some x) : ∃ s : K × K, cs = cellsS s ∧ PairD s x.1 := by
  obtain ⟨y0, y1, n, hx, hlen, h0, h1⟩ := trod_struct2 Try.underlying52 h
  rw [show Try.prog.cellsOf 52 = 2 by kernel_rfl] at hlen
  match cs, hlen with
  | [u, v], _ =>
    have c9 : Try.prog.cellsOf 9 = 1 := by kernel_rfl
    simp [c9] at h0 h1
    obtain ⟨a, ea, xa, ha⟩ := DataW.trod_string Try.underlying9 h0
    obtain ⟨b, eb, xb, hb⟩ := DataW.trod_string Try.underlying9 h1
    simp at ea eb
    exact ⟨(a, b), by rw [ea, eb]; rfl, by rw [hx, xa, xb]; rfl⟩
set_option maxRecDepth 100000 in
theorem chg_of_cells {fuel : Nat} {cs : List Value} {x : DataW H × List MemPlace} (h : DataW.trod enc Try.prog w base spare held fuel 55 cs = some x) : ∃ s : Chg, cs = encC s ∧ ChgD s x.1 := by
  obtain ⟨y0, y1, y2, n, hx, hlen, h0, h1, h2⟩ := trod_struct3 Try.underlying55 h
  rw [show Try.prog.cellsOf 55 = 3 by kernel_rfl] at hlen
  match cs, hlen with
  | [u, v, t], _ =>
    have c9 : Try.prog.cellsOf 9 = 1 := by kernel_rfl
    have c3 : Try.prog.cellsOf 3 = 1 := by kernel_rfl
    simp [c9, c3] at h0 h1 h2
    obtain ⟨m, em, _, _⟩ := DataW.trod_int Try.underlying3 h0
    obtain ⟨a, ea, xa, ha⟩ := DataW.trod_string Try.underlying9 h1
    obtain ⟨b, eb, xb, hb⟩ := DataW.trod_string Try.underlying9 h2
    simp at em ea eb
    exact ⟨⟨m, a, b⟩, by rw [em, ea, eb]; rfl, y0.1, by rw [hx, xa, xb]⟩
end
set_option maxRecDepth 100000 in
theorem SizedL.lenC {H : Type} {d : DataW H} {l : List Chg} (hs : SizedL ChgD d l) (hw : ∀ n ∈ d.weights Try.prog 32, n ≤ reachBytes) : l.length ≤ 3600000000000 ∧ ∀ c ∈ l, smallC c := by
  rcases hs with ⟨_, rfl⟩ | ⟨el, sp, rfl, he, hall⟩
  · simp
  · have h1 := slice_len Try.underlying32 hw
    rw [show Try.prog.bytesOf 55 = 40 by kernel_rfl] at h1
    refine ⟨by omega, fun s hs => ?_⟩
    obtain ⟨i, hi, rfl⟩ := List.getElem_of_mem hs
    obtain ⟨d', h2, y, rfl⟩ := hall i hi
    have hm : ∀ n, n ∈ (DataW.agg [y, .lit (.string l[i].key.data.toList), .lit (.string l[i].val.data.toList)]).weights Try.prog 55 → n ≤ reachBytes := fun n hn => hw n (weights_el Try.underlying32 h2 hn)
    have a := hm l[i].key.data.toList.length (by simp [DataW.weights, DataW.weightsEach, Try.underlying55])
    have b := hm l[i].val.data.toList.length (by simp [DataW.weights, DataW.weightsEach, Try.underlying55])
    rw [show reachBytes = 140737488351232 from rfl] at a b
    have e : ∀ k : K, k.data.toList.length = k.size := fun k => by simp
    rw [e] at a b
    exact ⟨by omega, by omega⟩
set_option maxRecDepth 100000 in
theorem SizedL.lenS {H : Type} {d : DataW H} {l : List (K × K)} (hs : SizedL PairD d l) (hw : ∀ n ∈ d.weights Try.prog 31, n ≤ reachBytes) : l.length < 4611686018427387904 ∧ ∀ s ∈ l, s.1.size < 4611686018427387904 ∧ s.2.size < 4611686018427387904 := by
  rcases hs with ⟨_, rfl⟩ | ⟨el, sp, rfl, he, hall⟩
  · simp
  · have h1 := slice_len Try.underlying31 hw
    rw [show Try.prog.bytesOf 52 = 32 by kernel_rfl] at h1
    refine ⟨by omega, fun s hs => ?_⟩
    obtain ⟨i, hi, rfl⟩ := List.getElem_of_mem hs
    obtain ⟨d', h2, h3⟩ := hall i hi
    unfold PairD at h3
    subst h3
    have hm : ∀ n, n ∈ (DataW.agg [.lit (.string l[i].1.data.toList), .lit (.string l[i].2.data.toList)]).weights Try.prog 52 → n ≤ reachBytes := fun n hn => hw n (weights_el Try.underlying31 h2 hn)
    have a := hm l[i].1.data.toList.length (by simp [DataW.weights, DataW.weightsEach, Try.underlying52])
    have b := hm l[i].2.data.toList.length (by simp [DataW.weights, DataW.weightsEach, Try.underlying52])
    rw [show reachBytes = 140737488351232 from rfl] at a b
    have e : ∀ k : K, k.data.toList.length = k.size := fun k => by simp
    rw [e] at a b
    exact ⟨by omega, by omega⟩
/-- what is known of a transaction's data -/
def TxD {H : Type} (W : World) (x : TxV) (d : DataW H) : Prop := RdP W W.heap.size x.v1 x.t.reads ∧ RdC W W.heap.size x.v2 x.t.chgs ∧ I64 x.t.read ∧ ∃ y0 y1 y2, d = .agg [y0, y1, y2] ∧ SizedL PairD y1 x.t.reads ∧ SizedL ChgD y2 x.t.chgs
section
variable {H : Type} {enc : TypeId × Value → H} {W : World}
set_option maxRecDepth 100000 in
theorem spans_of_slice {v : Value} {d : DataW H} {p : List MemPlace} (hv : ∃ a len cap, v = .slice a len cap) (h : DataW.Trod enc Try.prog W 0 (fun _ => true) true 31 v d p) : ∃ l, RdP W W.heap.size v l ∧ SizedL PairD d l :=
  haveI : Inhabited (K × K) := ⟨(⟨#[]⟩, ⟨#[]⟩)⟩
  open_rowsF (by decide) cellsS_len Try.underlying31 (by kernel_rfl) _ (fun _ _ _ h => span_of_cells h) hv h
set_option maxRecDepth 100000 in
theorem chgs_of_slice {v : Value} {d : DataW H} {p : List MemPlace} (hv : ∃ a len cap, v = .slice a len cap) (h : DataW.Trod enc Try.prog W 0 (fun _ => true) true 32 v d p) : ∃ l, RdC W W.heap.size v l ∧ SizedL ChgD d l :=
  haveI : Inhabited Chg := ⟨⟨0, ⟨#[]⟩, ⟨#[]⟩⟩⟩
  open_rowsF (by decide) encC_len Try.underlying32 (by kernel_rfl) _ (fun _ _ _ h => chg_of_cells h) hv h
set_option maxRecDepth 100000 in
theorem tx_of_cells {fuel : Nat} {cs : List Value} {x : DataW H × List MemPlace} (h : DataW.trod enc Try.prog W 0 (fun _ => true) true fuel 34 cs = some x) : ∃ a : TxV, cs = encTx a ∧ TxD W a x.1 := by
  obtain ⟨y0, y1, y2, n, hx, hlen, h0, h1, h2⟩ := trod_struct3 Try.underlying34 h
  rw [show Try.prog.cellsOf 34 = 3 by kernel_rfl] at hlen
  match cs, hlen with
  | [u, v, t], _ =>
    have c3 : Try.prog.cellsOf 3 = 1 := by kernel_rfl
    have cs1 : Try.prog.cellsOf 31 = 1 := by kernel_rfl
    have cc1 : Try.prog.cellsOf 32 = 1 := by kernel_rfl
    simp [c3, cs1, cc1] at h0 h1 h2
    obtain ⟨i0, e0, _, w0⟩ := DataW.trod_int Try.underlying3 h0
    simp at e0
    obtain ⟨hs1, ht1⟩ := slice_of Try.underlying31 h1
    obtain ⟨hs2, ht2⟩ := slice_of Try.underlying32 h2
    obtain ⟨l1, hr1, hz1⟩ := spans_of_slice hs1 ht1
    obtain ⟨l2, hr2, hz2⟩ := chgs_of_slice hs2 ht2
    exact ⟨⟨⟨i0, l1, l2⟩, v, t⟩, by rw [e0]; rfl, hr1, hr2, int_of_wf w0, y0.1, y1.1, y2.1, by rw [hx], hz1, hz2⟩
set_option maxRecDepth 100000 in
theorem TxD.fit {x : TxV} {d : DataW H} (h : TxD W x d) (hw : ∀ n ∈ d.weights Try.prog 34, n ≤ reachBytes) : fitT x.t := by
  obtain ⟨_, _, _, y0, y1, y2, rfl, hz1, hz2⟩ := h
  have q1 := hz1.lenS (fun n hn => hw n (by simp only [DataW.weights, Try.underlying34, List.map_cons, List.map_nil, DataW.weightsEach, List.mem_append]; simp only [hn, true_or, or_true]))
  have q2 := hz2.lenC (fun n hn => hw n (by simp only [DataW.weights, Try.underlying34, List.map_cons, List.map_nil, DataW.weightsEach, List.mem_append]; simp only [hn, true_or, or_true]))
  exact ⟨q1.1, q1.2, by have := q2.1; omega, q2.2⟩
set_option maxRecDepth 100000 in
theorem TxD.small {x : TxV} {d : DataW H} (h : TxD W x d) (hw : ∀ n ∈ d.weights Try.prog 34, n ≤ reachBytes) : x.t.chgs.length ≤ 3600000000000 := by
  obtain ⟨_, _, _, y0, y1, y2, rfl, hz1, hz2⟩ := h
  exact (hz2.lenC (fun n hn => hw n (by simp only [DataW.weights, Try.underlying34, List.map_cons, List.map_nil, DataW.weightsEach, List.mem_append]; simp only [hn, true_or, or_true]))).1
set_option maxRecDepth 100000 in
theorem txs_of_slice {v : Value} {d : DataW H} {p : List MemPlace} (hv : ∃ a len cap, v = .slice a len cap) (h : DataW.Trod enc Try.prog W 0 (fun _ => true) true 37 v d p) : ∃ l, Rd encTx 3 W W.heap.size v l ∧ SizedL (TxD W) d l :=
  haveI : Inhabited TxV := ⟨⟨zeroT, .bool false, .bool false⟩⟩
  open_rowsF (e2 := encTx) (k := 3) (by decide) encTx_len Try.underlying37 (by kernel_rfl) (TxD W) (fun _ _ _ h => tx_of_cells h) hv h
/-- transactions that came in -/
structure TsOk (w : World) (v : Value) (ts : List TxV) : Prop where
  rd : RdTs w w.heap.size v ts
  fit : ∀ x ∈ ts, fitT x.t
  read : ∀ x ∈ ts, I64 x.t.read
  len : ts.length < 4611686018427387904
  small : ∀ x ∈ ts, x.t.chgs.length ≤ 3600000000000
set_option maxRecDepth 100000 in
theorem ts_ok {v : Value} {d : DataW H} {l : List TxV} (hr : Rd encTx 3 W W.heap.size v l) (hz : SizedL (TxD W) d l) (hw : ∀ n ∈ d.weights Try.prog 37, n ≤ reachBytes) : TsOk W v l := by
  have hall : (∀ x ∈ l, RdP W W.heap.size x.v1 x.t.reads ∧ RdC W W.heap.size x.v2 x.t.chgs ∧ I64 x.t.read ∧ fitT x.t ∧ x.t.chgs.length ≤ 3600000000000) ∧ l.length < 4611686018427387904 := by
    rcases hz with ⟨_, rfl⟩ | ⟨el, sp, rfl, he, hall⟩
    · simp
    · have h1 := slice_len Try.underlying37 hw
      rw [show Try.prog.bytesOf 34 = 56 by kernel_rfl] at h1
      refine ⟨?_, by omega⟩
      intro s hs
      obtain ⟨i, hi, rfl⟩ := List.getElem_of_mem hs
      obtain ⟨d', h1, h2⟩ := hall i hi
      exact ⟨h2.1, h2.2.1, h2.2.2.1, h2.fit (fun n hn => hw n (weights_el Try.underlying37 h1 hn)), h2.small (fun n hn => hw n (weights_el Try.underlying37 h1 hn))⟩
  exact ⟨⟨hr, fun x hx => (hall.1 x hx).1, fun x hx => (hall.1 x hx).2.1⟩, fun x hx => (hall.1 x hx).2.2.2.1, fun x hx => (hall.1 x hx).2.2.1, hall.2, fun x hx => (hall.1 x hx).2.2.2.2⟩
set_option maxRecDepth 100000 in
theorem int_of_cells {fuel : Nat} {cs : List Value} {x : DataW H × List MemPlace} (h : DataW.trod enc Try.prog W 0 (fun _ => true) true fuel 3 cs = some x) : ∃ s : Int, cs = encI s ∧ I64 s := by
  obtain ⟨i0, e0, _, w0⟩ := DataW.trod_int Try.underlying3 h
  exact ⟨i0, e0, int_of_wf w0⟩
/-- what is known of a list of ints -/
def LID {H : Type} (W : World) (e : LI) (d : DataW H) : Prop := RdI W W.heap.size e.v e.l ∧ SizedL (fun (n : Int) (_ : DataW H) => I64 n) d e.l
set_option maxRecDepth 100000 in
theorem ints_of_slice {v : Value} {d : DataW H} {p : List MemPlace} (hv : ∃ a len cap, v = .slice a len cap) (h : DataW.Trod enc Try.prog W 0 (fun _ => true) true 23 v d p) : ∃ l, RdI W W.heap.size v l ∧ SizedL (fun (n : Int) (_ : DataW H) => I64 n) d l :=
  open_rowsF (e2 := encI) (k := 1) (by decide) encI_len Try.underlying23 (by kernel_rfl) (fun n _ => I64 n) (fun _ _ _ h => int_of_cells h) hv h
theorem SizedL.i64 {d : DataW H} {l : List Int} (h : SizedL (fun (n : Int) (_ : DataW H) => I64 n) d l) : ∀ n ∈ l, I64 n := by
  rcases h with ⟨_, rfl⟩ | ⟨el, sp, rfl, he, hall⟩
  · simp
  · intro n hn
    obtain ⟨i, hi, rfl⟩ := List.getElem_of_mem hn
    obtain ⟨d', _, h2⟩ := hall i hi
    exact h2
set_option maxRecDepth 100000 in
theorem SizedL.lenI {d : DataW H} {l : List Int} (h : SizedL (fun (n : Int) (_ : DataW H) => I64 n) d l) (hw : ∀ n ∈ d.weights Try.prog 23, n ≤ reachBytes) : l.length ≤ 17592186043904 := by
  rcases h with ⟨_, rfl⟩ | ⟨el, sp, rfl, he, hall⟩
  · simp
  · have h1 := slice_len Try.underlying23 hw
    rw [show Try.prog.bytesOf 3 = 8 by kernel_rfl] at h1
    omega
set_option maxRecDepth 100000 in
theorem one_slice {fuel : Nat} {cs : List Value} {x : DataW H × List MemPlace} (h : DataW.trod enc Try.prog W 0 (fun _ => true) true fuel 23 cs = some x) : ∃ v, cs = [v] := by
  rcases open_slice Try.underlying23 h with ⟨hcs, _⟩ | ⟨a, len, cap, _, _, _, _, hcs, _⟩
  · exact ⟨_, hcs⟩
  · exact ⟨_, hcs⟩
set_option maxRecDepth 100000 in
theorem li_of_cells {fuel : Nat} {cs : List Value} {x : DataW H × List MemPlace} (h : DataW.trod enc Try.prog W 0 (fun _ => true) true fuel 23 cs = some x) : ∃ e : LI, cs = encLI e ∧ LID W e x.1 := by
  obtain ⟨v, rfl⟩ : ∃ v, cs = [v] := one_slice h
  obtain ⟨hs, ht⟩ := slice_of Try.underlying23 h
  obtain ⟨l, hr, hz⟩ := ints_of_slice hs ht
  have hr0 := hr
  obtain ⟨A, c, rfl, _, _⟩ := hr
  exact ⟨⟨l, A, c⟩, rfl, hr0, hz⟩
/-- lists that came in -/
structure LLOk (w : World) (v : Value) (ls : List LI) : Prop where
  rd : RdLL w w.heap.size v ls
  small : ∀ e ∈ ls, e.l.length ≤ 17592186043904 ∧ ∀ n ∈ e.l, I64 n
  len : ls.length < 4611686018427387904
end
section
variable {H : Type} {enc : TypeId × Value → H} {W : World} {base : Nat} {v : Value} {d : DataW H} {p : List MemPlace}
set_option maxRecDepth 100000 in
theorem open_txs (hv : Value.okWide Try.prog W .any base 37 v) (h : DataW.Trod enc Try.prog W 0 (fun _ => true) true 37 v d p) (hw : ∀ n ∈ d.weights Try.prog 37, n ≤ reachBytes) : ∃ l, TsOk W v l := by
  obtain ⟨l, hr, hz⟩ := txs_of_slice (by obtain ⟨a, len, cap, rfl⟩ := okWide_slice Try.underlying37 hv; exact ⟨a, len, cap, rfl⟩) h
  exact ⟨l, ts_ok hr hz hw⟩
set_option maxRecDepth 100000 in
theorem open_vints (hv : Value.okWide Try.prog W .any base 23 v) (h : DataW.Trod enc Try.prog W 0 (fun _ => true) true 23 v d p) (hw : ∀ n ∈ d.weights Try.prog 23, n ≤ reachBytes) : ∃ l, RdI W W.heap.size v l ∧ (∀ n ∈ l, I64 n) ∧ l.length ≤ 17592186043904 := by
  obtain ⟨l, hr, hz⟩ := ints_of_slice (by obtain ⟨a, len, cap, rfl⟩ := okWide_slice Try.underlying23 hv; exact ⟨a, len, cap, rfl⟩) h
  exact ⟨l, hr, hz.i64, hz.lenI hw⟩
set_option maxRecDepth 100000 in
theorem open_lists (hv : Value.okWide Try.prog W .any base 22 v) (h : DataW.Trod enc Try.prog W 0 (fun _ => true) true 22 v d p) (hw : ∀ n ∈ d.weights Try.prog 22, n ≤ reachBytes) : ∃ ls, LLOk W v ls := by
  haveI : Inhabited LI := ⟨⟨[], none, 0⟩⟩
  obtain ⟨l, hr, hz⟩ := open_rowsF (e2 := encLI) (k := 1) (by decide) encLI_len Try.underlying22 (by kernel_rfl) (LID W) (fun _ _ _ h => li_of_cells h) (by obtain ⟨a, len, cap, rfl⟩ := okWide_slice Try.underlying22 hv; exact ⟨a, len, cap, rfl⟩) h
  have hall : (∀ e ∈ l, RdI W W.heap.size e.v e.l ∧ e.l.length ≤ 17592186043904 ∧ ∀ n ∈ e.l, I64 n) ∧ l.length < 4611686018427387904 := by
    rcases hz with ⟨_, rfl⟩ | ⟨el, sp, rfl, he, hall⟩
    · simp
    · have h1 := slice_len Try.underlying22 hw
      rw [show Try.prog.bytesOf 23 = 24 by kernel_rfl] at h1
      refine ⟨?_, by omega⟩
      intro e he
      obtain ⟨i, hi, rfl⟩ := List.getElem_of_mem he
      obtain ⟨d', h1, h2⟩ := hall i hi
      exact ⟨h2.1, h2.2.lenI fun n hn => hw n (weights_el Try.underlying22 h1 hn), h2.2.i64⟩
  exact ⟨l, ⟨hr, fun e he => (hall.1 e he).1⟩, fun e he => (hall.1 e he).2, hall.2⟩
set_option maxRecDepth 100000 in
theorem open_txn (hv : Value.okWide Try.prog W .any base 34 v) (h : DataW.Trod enc Try.prog W 0 (fun _ => true) true 34 v d p) (hw : ∀ n ∈ d.weights Try.prog 34, n ≤ reachBytes) :
    ∃ (t : Txn) (x1 x2 : Value), v = tval t x1 x2 ∧ RdP W W.heap.size x1 t.reads ∧ RdC W W.heap.size x2 t.chgs ∧ fitT t ∧ I64 t.read := by
  obtain ⟨v0, v1, v2, y0, y1, y2, n, rfl, rfl, _, h0, h1, h2⟩ := open_agg3 Try.underlying34 (by kernel_rfl) (by kernel_rfl) hv h
  obtain ⟨i0, e0, _, g0⟩ := DataW.trod_int Try.underlying3 h0
  simp at e0
  obtain ⟨hs1, ht1⟩ := slice_of Try.underlying31 h1
  obtain ⟨hs2, ht2⟩ := slice_of Try.underlying32 h2
  obtain ⟨l1, hr1, hz1⟩ := spans_of_slice hs1 ht1
  obtain ⟨l2, hr2, hz2⟩ := chgs_of_slice hs2 ht2
  have q1 := hz1.lenS (fun n hn => hw n (by simp only [DataW.weights, Try.underlying34, List.map_cons, List.map_nil, DataW.weightsEach, List.mem_append]; simp only [hn, true_or, or_true]))
  have q2 := hz2.lenC (fun n hn => hw n (by simp only [DataW.weights, Try.underlying34, List.map_cons, List.map_nil, DataW.weightsEach, List.mem_append]; simp only [hn, true_or, or_true]))
  exact ⟨⟨i0, l1, l2⟩, v1, v2, by rw [e0]; rfl, hr1, hr2, ⟨q1.1, q1.2, by have := q2.1; show l2.length < _; omega, q2.2⟩, int_of_wf g0⟩
end
end Go.Proofs.Ytmakgjokadcfjaa
namespace Go.Proofs.Ytmakgjokadcfjaa

theorem topV_append (l : List Int) (v x : Int) : topV v (l ++ [x]) = if x > topV v l then x else topV v l := by
  induction l generalizing v with
  | nil => rfl
  | cons y l ih => exact ih _
/-- the lists alone -/
def lls (ls : List LI) : List (List Int) := ls.map (·.l)
theorem lls_length (ls : List LI) : (lls ls).length = ls.length := by simp [lls]
theorem lenV_lls {ls : List LI} (h : 0 < ls.length) : lenV (lls ls) = ls[0].l.length := by
  cases ls with
  | nil => simp at h
  | cons e ls => rfl
theorem col_succ {ls : List LI} {k i : Nat} (hi : i < ls.length) (hk : k < ls[i].l.length) : (colV (lls ls) k).take (i + 1) = (colV (lls ls) k).take i ++ [ls[i].l[k]] := by
  have h1 : (colV (lls ls) k).length = ls.length := by simp [colV, lls]
  rw [List.take_add_one, List.getElem?_eq_getElem (by omega)]
  congr 1
  simp [colV, lls, List.getElem?_eq_getElem hk]
theorem col_all {ls : List LI} {k : Nat} : (colV (lls ls) k).take ls.length = colV (lls ls) k := by
  rw [List.take_of_length_le]
  simp [colV, lls]
/-- the first places -/
def bothTo (ls : List (List Int)) (k : Nat) : List Int := (List.range k).map fun j => topV 1 (colV ls j)
theorem bothTo_succ (ls : List (List Int)) (k : Nat) : bothTo ls (k + 1) = bothTo ls k ++ [topV 1 (colV ls k)] := by
  unfold bothTo
  rw [List.range_succ, List.map_append]
  rfl
theorem bothTo_length (ls : List (List Int)) (k : Nat) : (bothTo ls k).length = k := by simp [bothTo]
theorem bothL_to (ls : List (List Int)) : bothL ls = bothTo ls (lenV ls) := rfl
/-- the first lists' lengths are the first one's -/
def evenTo (ls : List LI) (i : Nat) : Prop := ∀ j (h : j < ls.length), j < i → ls[j].l.length = lenV (lls ls)
theorem evenTo_all {ls : List LI} (h0 : 0 < ls.length) (h : evenTo ls ls.length) : evenV (lls ls) := by
  refine ⟨fun e => by have := lls_length ls; rw [e] at this; simp at this; omega, fun l hl => ?_⟩
  obtain ⟨e, he, rfl⟩ := List.mem_map.1 hl
  obtain ⟨j, hj, rfl⟩ := List.mem_iff_getElem.1 he
  exact h j hj hj
theorem evenTo_bad {ls : List LI} {i : Nat} (hi : i < ls.length) (h : ls[i].l.length ≠ lenV (lls ls)) : ¬ evenV (lls ls) := fun g => h (g.2 _ (List.mem_map.2 ⟨ls[i], List.getElem_mem hi, rfl⟩))
theorem evenV_at {ls : List LI} (h : evenV (lls ls)) {i : Nat} (hi : i < ls.length) : ls[i].l.length = lenV (lls ls) := h.2 _ (List.mem_map.2 ⟨ls[i], List.getElem_mem hi, rfl⟩)
/-- the first places are verdicts -/
def okTo (ls : List LI) (k : Nat) : Prop := ∀ i (h : i < ls.length), ∀ j (g : j < ls[i].l.length), j < k → okV ls[i].l[j]
def okRow (ls : List LI) (k i : Nat) : Prop := ∀ j (h : j < ls.length), ∀ (g : k < ls[j].l.length), j < i → okV ls[j].l[k]
theorem okTo_succ {ls : List LI} {k : Nat} (h : okTo ls k) (g : okRow ls k ls.length) : okTo ls (k + 1) := fun i hi j hj hjk => by
  by_cases e : j < k
  · exact h i hi j hj e
  · obtain rfl : j = k := by omega
    exact g i hi hj hi
theorem okTo_all {ls : List LI} (he : evenV (lls ls)) (h : okTo ls (lenV (lls ls))) : allV (lls ls) := fun l hl x hx => by
  obtain ⟨e, he', rfl⟩ := List.mem_map.1 hl
  obtain ⟨i, hi, rfl⟩ := List.mem_iff_getElem.1 he'
  obtain ⟨j, hj, rfl⟩ := List.mem_iff_getElem.1 hx
  exact h i hi j hj (by rw [← evenV_at he hi]; exact hj)
theorem okTo_bad {ls : List LI} {i k : Nat} (hi : i < ls.length) (hk : k < ls[i].l.length) (h : ¬ okV ls[i].l[k]) : ¬ allV (lls ls) := fun g => h (g _ (List.mem_map.2 ⟨ls[i], List.getElem_mem hi, rfl⟩) _ (List.getElem_mem hk))
/-- the answers, by what the loops find -/
theorem bothAns_arg {ls : List (List Int)} (h : ¬ evenV ls) : bothAns ls = ([], 1) := by
  have e : bothE ls = 1 := by unfold bothE; rw [if_neg h]
  unfold bothAns
  rw [if_neg (by rw [e]; decide), e]
theorem bothAns_form {ls : List (List Int)} (h : evenV ls) (g : ¬ allV ls) : bothAns ls = ([], 2) := by
  have e : bothE ls = 2 := by unfold bothE; rw [if_pos h, if_neg g]
  unfold bothAns
  rw [if_neg (by rw [e]; decide), e]
theorem bothAns_ok {ls : List (List Int)} (h : evenV ls) (g : allV ls) : bothAns ls = (bothTo ls (lenV ls), 0) := by
  have e : bothE ls = 0 := bothE_zero.2 ⟨h, g⟩
  unfold bothAns
  rw [if_pos e, bothL_to]
theorem bothAns_none : bothAns [] = ([], 1) := bothAns_arg (fun h => h.1 rfl)
theorem bothAns_two {ls : List (List Int)} : (bothAns ls).2 = bothE ls := by
  unfold bothAns
  by_cases h : bothE ls = 0
  · rw [if_pos h, h]
  · rw [if_neg h]
/-- one by one is all at once, of the answers -/
theorem both_again {a b c : List Int} (h : (bothAns [a, b, c]).2 = 0) : (bothAns [a, b]).2 = 0 ∧ bothAns [(bothAns [a, b]).1, c] = ((bothAns [a, b, c]).1, 0) := by
  rw [bothAns_two] at h
  obtain ⟨h1, h2, h3⟩ := both_step h
  have e1 : bothAns [a, b] = (bothL [a, b], 0) := by unfold bothAns; rw [if_pos h1]
  have e2 : bothAns [a, b, c] = (bothL [a, b, c], 0) := by unfold bothAns; rw [if_pos h]
  rw [e1, e2]
  refine ⟨rfl, ?_⟩
  show bothAns [bothL [a, b], c] = (bothL [a, b, c], 0)
  unfold bothAns
  rw [if_pos h2, h3]
/-! ### what Check's loops hold -/
theorem sumC_succ {l : List Chg} {i : Nat} (h : i < l.length) : sumC (l.take (i + 1)) = sumC (l.take i) + (l[i].key.size + l[i].val.size + 8) := by
  unfold sumC
  rw [List.take_succ_eq_append_getElem h, List.map_append, List.sum_append]
  simp
theorem sumS_succ {l : List (K × K)} {i : Nat} (h : i < l.length) : sumS (l.take (i + 1)) = sumS (l.take i) + (l[i].1.size + l[i].2.size + 8) := by
  unfold sumS
  rw [List.take_succ_eq_append_getElem h, List.map_append, List.sum_append]
  simp
def smallTo (l : List Chg) (i : Nat) : Prop := ∀ j (h : j < l.length), j < i → l[j].key.size ≤ 512 ∧ l[j].val.size ≤ 512
def shortTo (l : List (K × K)) (i : Nat) : Prop := ∀ j (h : j < l.length), j < i → l[j].1.size ≤ 17 ∧ l[j].2.size ≤ 17
def upTo (l : List (K × K)) (i : Nat) : Prop := ∀ j (h : j < l.length), j < i → ¬ l[j].2 < l[j].1
theorem checkT_arg {t : Txn} (h : t.read < 0) : checkT t = 1 := by unfold checkT; rw [if_pos h]
theorem checkT_big {t : Txn} (h : ¬ t.read < 0) (g : bigT t) : checkT t = 6 := by unfold checkT; rw [if_neg h, if_pos g]
theorem checkT_turned {t : Txn} (h : ¬ t.read < 0) (g : ¬ bigT t) (f : ∃ s ∈ t.reads, s.2 < s.1) : checkT t = 5 := by unfold checkT; rw [if_neg h, if_neg g, if_pos f]
theorem checkT_rest {t : Txn} (h : ¬ t.read < 0) (g : ¬ bigT t) (f : upTo t.reads t.reads.length) : checkT t = allAns t.chgs := by
  unfold checkT
  rw [if_neg h, if_neg g, if_neg]
  rintro ⟨s, hs, e⟩
  obtain ⟨j, hj, rfl⟩ := List.mem_iff_getElem.1 hs
  exact f j hj hj e
theorem not_big {t : Txn} (h1 : t.reads.length ≤ 24) (h2 : t.chgs.length ≤ 24) (h3 : smallTo t.chgs t.chgs.length) (h4 : shortTo t.reads t.reads.length) (h5 : sumC t.chgs + sumS t.reads ≤ 512) : ¬ bigT t := by
  rintro (h | h | ⟨c, hc, h⟩ | ⟨s, hs, h⟩ | h)
  · omega
  · omega
  · obtain ⟨j, hj, rfl⟩ := List.mem_iff_getElem.1 hc
    have := h3 j hj hj
    omega
  · obtain ⟨j, hj, rfl⟩ := List.mem_iff_getElem.1 hs
    have := h4 j hj hj
    omega
  · omega
end Go.Proofs.Ytmakgjokadcfjaa
namespace Go.Proofs.Ytmakgjokadcfjaa
open Go.RowKit

section
variable {α : Type} {enc : α → List Value} {k : Nat} {P : Program}
theorem toList_madeCells_k (x0 : α) (hk : ∀ x, (enc x).length = k) (hpos : 0 < k) (z : Array Value) (hz : z.toList = enc x0) (n : Nat) : (madeCells z (n * k)).toList = flatG enc (List.replicate n x0) := by
  have hzs : z.size = k := by rw [← hk x0, ← hz]; simp
  apply List.ext_getElem?
  intro i
  by_cases hi : i < n * k
  · have hq : i / k < n := Nat.div_lt_of_lt_mul (by rw [Nat.mul_comm]; exact hi)
    have hm : i % k < k := Nat.mod_lt _ hpos
    have e : i = i / k * k + i % k := by rw [Nat.mul_comm]; exact (Nat.div_add_mod i k).symm
    have h2 := flatG_get hk (List.replicate n x0) (i / k) (by simpa using hq) (i % k) hm
    rw [← e, List.getElem_replicate, ← hz] at h2
    rw [h2]
    have h3 : i % k < z.size := by rw [hzs]; exact hm
    have h4 : i < (madeCells z (n * k)).size := by rw [size_madeCells]; exact hi
    rw [List.getElem?_eq_getElem (by simpa using h4), List.getElem?_eq_getElem (by simpa using h3)]
    simp only [madeCells, Array.getElem_toList, Array.getElem_map, Array.getElem_range, hzs]
    rw [getElem!_pos z (i % k) h3]
  · rw [List.getElem?_eq_none (by simp [size_madeCells]; omega), List.getElem?_eq_none (by rw [flatG_length hk]; simp; omega)]
/-- the run of a make with its length alone -/
theorem run_makeK (base : Nat) (t e : TypeId) (B : Nat) (zs : List Value) (z : Value) (x0 : α) (ht : P.underlying t = some (.slice e)) (hi : (P.info? e).map (fun i => (i.zero, i.size, i.bytes)) = some (some z, k, B)) (hzc : z.cells.toList = zs) (hx : zs = enc x0)
    (hk : ∀ x, (enc x).length = k) (hpos : 0 < k) (n : Nat) (w : World) (hbytes : B * n ≤ 281474976710656) (h63 : n ≤ maxLen) (hbase : base ≤ w.heap.size) :
    ∃ w', (Instr.makeSlice t (.int .i64 (n : Int)) (.int .i64 (n : Int))).run P w = .ok (.slice (some ⟨w.heap.size, 0, none⟩) n n) w' ∧ Own enc k e w' base (.slice (some ⟨w.heap.size, 0, none⟩) n n) (List.replicate n x0) ∧ Below w.heap.size w w' := by
  obtain ⟨i, hi2, h1, h2, h3⟩ : ∃ i, P.info? e = some i ∧ i.zero = some z ∧ i.size = k ∧ i.bytes = B := by
    cases h : P.info? e with
    | none => rw [h] at hi; cases hi
    | some i =>
      rw [h] at hi
      simp only [Option.map_some, Option.some.injEq, Prod.mk.injEq] at hi
      exact ⟨i, rfl, hi.1, hi.2.1, hi.2.2⟩
  obtain ⟨w', hr, ho, hg⟩ := run_make_full (P := P) w base t e i z k ht hi2 h1 h2 .i64 .i64 n (by rw [h3]; exact hbytes) h63 hbase
  refine ⟨w', hr, ?_, (Below.refl _ w).grown hg (Nat.le_refl _) (fun _ h => by cases h)⟩
  unfold Own
  rw [toList_madeCells_k x0 hk hpos z.cells (by rw [hzc, hx]) n] at ho
  rw [List.length_replicate]
  exact ho
end
end Go.Proofs.Ytmakgjokadcfjaa
namespace Go.Proofs.Ytmakgjokadcfjaa
open Go.RowKit
attribute [local go_sem] less_eq same_eq le_eq ge_eq gt_eq

set_option maxRecDepth 100000 in
theorem worse_any (a b : Int) (w : World) : Calls Try.prog 23 #[.int .i64 a, .int .i64 b] w fun e w' => e = .returned (.int .i64 (max a b)) ∧ w' = w := by
  go_enter Try.func23, Try.ntmps23
  go_wp2_with fail
  go_ret
  exact ⟨rfl, rfl⟩
set_option maxRecDepth 100000 in
theorem pfill_any (ts : List TxV) (v : Value) (w : World) (hv : RdTs w w.heap.size v ts) (hl : ts.length < 4611686018427387904) :
    Calls Try.prog 18 #[v] w fun e w' => e = .returned (.int .i64 (fillV (ts.map (·.t)) : Nat)) ∧ Below w.heap.size w w' := by
  obtain ⟨A, c, rfl, hc, -⟩ := hv.keep
  have hf : ((fillV (ts.map (·.t)) : Nat) : Int) = min (ts.length : Int) 4 := by unfold fillV; rw [List.length_map]; omega
  rw [hf]
  clear hf hv
  go_enter Try.func18, Try.ntmps18
  go_wp2_with fail
  go_ret
  exact ⟨rfl, Below.refl _ _⟩

/-! ### is each number a verdict? -/
theorem allV_lls {ls : List LI} : allV (lls ls) ↔ ∀ i (_ : i < ls.length), ∀ x ∈ ls[i].l, okV x := by
  constructor
  · intro h i hi x hx
    exact h _ (List.mem_map.2 ⟨ls[i], List.getElem_mem hi, rfl⟩) x hx
  · intro h l hl x hx
    obtain ⟨e, he, rfl⟩ := List.mem_map.1 hl
    obtain ⟨i, hi, rfl⟩ := List.mem_iff_getElem.1 he
    exact h i hi x hx
theorem take_step {α : Type} {P : α → Prop} {l : List α} {k : Nat} (hk : k < l.length) (h : ∀ x ∈ l.take k, P x) (g : P l[k]) : ∀ x ∈ l.take (k + 1), P x := fun x hx => by
  rw [List.take_succ_eq_append_getElem hk, List.mem_append] at hx
  rcases hx with hx | hx
  · exact h x hx
  · simp only [List.mem_singleton] at hx
    rw [hx]; exact g

set_option maxHeartbeats 2000000 in
set_option maxRecDepth 100000 in
theorem pknown_any (ls : List LI) (v : Value) (w : World) (hv : RdLL w w.heap.size v ls) (hl : ls.length < 4611686018427387904) (hs : ∀ e ∈ ls, e.l.length < 4611686018427387904) :
    Calls Try.prog 22 #[v] w fun e w' => e = .returned (.bool (decide (allV (lls ls)))) ∧ w' = w := by
  obtain ⟨A, c, rfl, hc, hk⟩ := hv.keep
  have HPT := Lib.hid (fun i (h : i < ls.length) => hv.parts ls[i] (List.getElem_mem h))
  have HSM := Lib.hid (fun i (h : i < ls.length) => hs ls[i] (List.getElem_mem h))
  have HK := Lib.hid (fun i (h : i < ls.length) => hk i h)
  clear hv hs hk
  obtain ⟨R, hR⟩ : ∃ R, R = decide (allV (lls ls)) := ⟨_, rfl⟩
  rw [← hR]
  have HNO := Lib.hid (fun (h : ¬ allV (lls ls)) => (show R = false by rw [hR]; exact decide_eq_false h))
  have HYES := Lib.hid (fun (h : allV (lls ls)) => (show R = true by rw [hR]; exact decide_eq_true h))
  clear hR
  go_enter Try.func22, Try.ntmps22
  go_wp2_with fail
  go_loop [9] (fun iv => ∃ i : Nat, i ≤ ls.length ∧ iv = .int .i64 i ∧ Hid (∀ j (_ : j < ls.length), j < i → ∀ x ∈ ls[j].l, okV x)) (fun iv => ls.length - (intOf iv).toNat)
  case atStart => exact ⟨0, Nat.zero_le _, rfl, Lib.hid (fun j _ h => by omega)⟩
  case round =>
    obtain ⟨i, hil, rfl, HP⟩ := hrel
    by_cases hlt : i < ls.length
    · obtain ⟨b, o, rfl, hcell⟩ := HK.out i hlt
      have k0 := hcell w (Below.refl _ _)
      have hI : (i : Int) < (ls.length : Int) := by omega
      have hsm := HSM.out i hlt
      obtain ⟨A2, c2, ev, hc2, hx2⟩ := (HPT.out i hlt).keep
      have hN : ∀ k (_ : k < ls[i].l.length), ¬ okV ls[i].l[k] → ¬ allV (lls ls) := fun k hk h g => h (allV_lls.1 g i hlt _ (List.getElem_mem hk))
      have hY : (∀ x ∈ ls[i].l, okV x) → ∀ j (_ : j < ls.length), j < i + 1 → ∀ x ∈ ls[j].l, okV x := fun h j hj hji => by
        by_cases e : j < i
        · exact HP.out j hj e
        · obtain rfl : j = i := by omega
          exact h
      have HN := Lib.hid hN
      have HY := Lib.hid hY
      clear hN hY hcell
      unfold LI.v at ev
      injection ev with ev1 _ ev3
      rw [ev1] at k0
      clear ev1 ev3
      generalize ls[i].l = l at k0 hsm hc2 hx2 HN HY
      generalize ls[i].c = ci at k0
      have HX := Lib.hid (fun k (h : k < l.length) => hx2 k h)
      clear hx2
      go_wp2_with fail
      clear k0
      go_loop [15] (fun kv => ∃ k : Nat, k ≤ l.length ∧ kv = .int .i64 k ∧ Hid (∀ x ∈ l.take k, okV x)) (fun kv => l.length - (intOf kv).toNat)
      case atStart => exact ⟨0, Nat.zero_le _, rfl, Lib.hid (by simp)⟩
      case round =>
        obtain ⟨k, hkl, rfl, HQ⟩ := hrel
        by_cases hlk : k < l.length
        · obtain ⟨b2, o2, eA, hc3⟩ := HX.out k hlk
          have kx := hc3 w (Below.refl _ _)
          subst eA
          have hK1 : (k : Int) < (l.length : Int) := by omega
          have hst : okV l[k] → ∀ x ∈ l.take (k + 1), okV x := take_step hlk HQ.out
          have HST := Lib.hid hst
          have HBD := Lib.hid (HN.out k hlk)
          clear hst hc3
          generalize l[k] = x at kx HST HBD
          by_cases hx1 : x < 1
          · have HR := Lib.hid (HNO.out (HBD.out (fun h => by have := h.1; omega)))
            go_wp2_with fail
            go_ret
            exact ⟨by rw [HR.out]; rfl, rfl⟩
          by_cases hx3 : 3 < x
          · have HR := Lib.hid (HNO.out (HBD.out (fun h => by have := h.2; omega)))
            go_wp2_with fail
            go_ret
            exact ⟨by rw [HR.out]; rfl, rfl⟩
          have HQ2 := Lib.hid (HST.out ⟨by omega, by omega⟩)
          clear HST
          go_wp2_with fail
          exact ⟨⟨k + 1, by omega, by go_num, HQ2⟩, by simp [intOf]; omega⟩
        · obtain rfl : k = l.length := by omega
          have hq := HQ.out
          rw [List.take_length] at hq
          have HP2 := Lib.hid (HY.out hq)
          clear hq
          go_wp2_with fail
          exact ⟨⟨i + 1, by omega, by go_num, HP2⟩, by simp [intOf]; omega⟩
    · obtain rfl : i = ls.length := by omega
      have HR := Lib.hid (HYES.out (allV_lls.2 fun j hj => HP.out j hj hj))
      go_wp2_with fail
      go_ret
      exact ⟨by rw [HR.out]; rfl, rfl⟩

/-! ### place by place -/
/-- what is put together when the first i lists are, and j places of the next one -/
def accV (ls : List (List Int)) (n i j : Nat) : List Int := (List.range n).map fun k => topV 0 ((colV ls k).take (if k < j then i + 1 else i))
theorem accV_length (ls : List (List Int)) (n i j : Nat) : (accV ls n i j).length = n := by simp [accV]
theorem accV_get {ls : List (List Int)} {n i j k : Nat} (_ : k < n) (h : k < (accV ls n i j).length) : (accV ls n i j)[k] = topV 0 ((colV ls k).take (if k < j then i + 1 else i)) := by
  simp [accV]
theorem accV_set {ls : List (List Int)} {n i j : Nat} (_ : j < n) {x : Int} (hx : x = topV 0 ((colV ls j).take (i + 1))) : (accV ls n i j).set j x = accV ls n i (j + 1) := by
  refine List.ext_getElem (by simp [accV]) fun k h1 h2 => ?_
  have hk : k < n := by rw [accV_length] at h2; exact h2
  rw [accV_get hk h2, List.getElem_set]
  by_cases e : j = k
  · subst e
    rw [if_pos rfl, if_pos (by omega), hx]
  · rw [if_neg e, accV_get hk (by rw [accV_length]; exact hk)]
    by_cases g : k < j
    · rw [if_pos g, if_pos (by omega)]
    · rw [if_neg g, if_neg (by omega)]
theorem accV_next (ls : List (List Int)) (n i : Nat) : accV ls n i n = accV ls n (i + 1) 0 := by
  unfold accV
  refine List.map_congr_left fun k hk => ?_
  rw [if_pos (List.mem_range.1 hk), if_neg (by omega)]
theorem accV_zero (ls : List (List Int)) (n : Nat) : accV ls n 0 0 = List.replicate n 0 := by
  refine List.ext_getElem (by simp [accV]) fun k h1 h2 => ?_
  have hk : k < n := by simpa using h2
  rw [accV_get hk, if_neg (by omega), List.take_zero, List.getElem_replicate]
  rfl
theorem topV_low {l : List Int} (h : l ≠ []) (g : ∀ x ∈ l, okV x) : topV 0 l = topV 1 l := by
  obtain ⟨h1, h2, h3⟩ := topV_spec l 1
  refine topV_eq (by omega) h2 (.inr ?_)
  rcases h3 with h3 | h3
  · obtain ⟨x, hx⟩ := List.exists_mem_of_ne_nil l h
    have := h2 x hx
    have := (g x hx).1
    have e : topV 1 l = x := by omega
    rw [e]; exact hx
  · exact h3
theorem accV_all {ls : List LI} (h : evenV (lls ls)) (g : allV (lls ls)) : accV (lls ls) (lenV (lls ls)) ls.length 0 = bothTo (lls ls) (lenV (lls ls)) := by
  unfold accV bothTo
  refine List.map_congr_left fun k hk => ?_
  rw [if_neg (by omega), col_all]
  refine topV_low ?_ (colV_ok (bothE_zero.2 ⟨h, g⟩) (List.mem_range.1 hk))
  intro e
  have := congrArg List.length e
  simp [colV] at this
  exact h.1 this
end Go.Proofs.Ytmakgjokadcfjaa
namespace Go.Proofs.Ytmakgjokadcfjaa
open Go.RowKit
attribute [local go_sem] less_eq same_eq le_eq ge_eq gt_eq

/-- a cell that holds lists, of which the first has n0 -/
def HeadAt (W : World) (B n0 : Nat) : Prop := ∃ (b o n c c0 : Nat) (A0 : Option Addr), 0 < n ∧ W.cell? ⟨B, 0, none⟩ = some (.slice (some ⟨b, o, none⟩) n c) ∧ W.cell? ⟨b, o, none⟩ = some (.slice A0 n0 c0)
set_option maxHeartbeats 1000000 in
set_option maxRecDepth 100000 in
theorem unlike_any (A : Option Addr) (m c B n0 : Nat) (w : World) (h : HeadAt w B n0) :
    Calls Try.prog 20 #[.slice A m c, .pointer (some ⟨B, 0, none⟩)] w fun e w' => e = .returned (.bool (decide (m ≠ n0))) ∧ Below w.heap.size w w' := by
  obtain ⟨b, o, n, c, c0, A0, hn, k0, k1⟩ := h
  have hnI : (0 : Int) < (n : Int) := by omega
  by_cases e : m = n0
  · subst e
    rw [decide_eq_false (by simp)]
    clear hn
    go_enter Try.func20, Try.ntmps20
    go_wp2_with fail
    go_ret
    exact ⟨rfl, Below.refl _ _⟩
  · rw [decide_eq_true e]
    have e1 : ¬ (m : Int) = (n0 : Int) := by omega
    have e2 : ((m : Int) == (n0 : Int)) = false := by simpa using e1
    have E := Lib.hid e1
    clear hn e e1
    go_enter Try.func20, Try.ntmps20
    go_wp2_with fail
    go_ret
    exact ⟨show Ending.returned (Value.bool ((m : Int) != (n0 : Int))) = _ by rw [bne, e2]; rfl, Below.refl _ _⟩

set_option maxHeartbeats 4000000 in
set_option maxRecDepth 100000 in
theorem lindex_any (ls : List LI) (B n0 : Nat) (v : Value) (w : World) (hv : RdLL w w.heap.size v ls) (hB : ∀ W, Below w.heap.size w W → HeadAt W B n0) (hl : ls.length < 4611686018427387904) :
    Calls Try.prog 31 #[v, .func (.func 20) #[] #[.pointer (some ⟨B, 0, none⟩)]] w fun e w' => ∃ r : Int, e = .returned (.int .i64 r) ∧ decide (0 ≤ r) = decide (∃ j, ∃ h : j < ls.length, ls[j].l.length ≠ n0) ∧ Below w.heap.size w w' := by
  obtain ⟨A, c, rfl, hc, hk⟩ := hv.keep
  obtain ⟨g, hg⟩ : ∃ g, g = w.heap.size := ⟨_, rfl⟩
  rw [← hg]
  have hgw : Below g w w := Below.refl _ _
  have HK := Lib.hid (fun i (h : i < ls.length) => hk i h)
  have HCL := Lib.hid (fun i (h : i < ls.length) W (hW : Below w.heap.size w W) => unlike_any ls[i].A ls[i].l.length ls[i].c B n0 W (hB W hW))
  clear hv hk hB
  rw [← hg] at HK HCL
  have HG := Lib.hid hg; clear hg
  obtain ⟨R, hR⟩ : ∃ R, R = decide (∃ j, ∃ h : j < ls.length, ls[j].l.length ≠ n0) := ⟨_, rfl⟩
  rw [← hR]
  have HYES := Lib.hid (fun i (h : i < ls.length) (e : ls[i].l.length ≠ n0) => (show R = true by rw [hR]; exact decide_eq_true ⟨i, h, e⟩))
  have HNO := Lib.hid (fun (e : ∀ i (h : i < ls.length), ¬ ls[i].l.length ≠ n0) => (show R = false by rw [hR]; exact decide_eq_false fun ⟨i, h, f⟩ => e i h f))
  clear hR
  have HB0 := Lib.hid hgw; clear hgw
  go_enter Try.func31, Try.ntmps31
  go_wp2_with fail
  go_loopw [8] (fun iv wr => ∃ i : Nat, i ≤ ls.length ∧ iv = .int .i64 i ∧ Hid (Below g w wr) ∧ Hid (∀ t (_ : t < ls.length), t < i → ¬ ls[t].l.length ≠ n0)) (fun iv _ => ls.length - (intOf iv).toNat)
  case atStart => exact ⟨0, Nat.zero_le _, rfl, HB0, Lib.hid (fun t _ h => absurd h (Nat.not_lt_zero _))⟩
  case round =>
    obtain ⟨i, hil, rfl, HBW, HP⟩ := hrel
    by_cases hlt : i < ls.length
    · obtain ⟨b, o, rfl, hcell⟩ := HK.out i hlt
      have k0 := hcell wr HBW.out
      clear hcell
      
      have hI : (i : Int) < (ls.length : Int) := by omega
      have hcc := HCL.out i hlt wr HBW.out
      have hgs : g ≤ wr.heap.size := by rw [HG.out]; exact (show Below w.heap.size w wr from by rw [← HG.out]; exact HBW.out).size
      have hp : ¬ ls[i].l.length ≠ n0 → ∀ t (_ : t < ls.length), t < i + 1 → ¬ ls[t].l.length ≠ n0 := fun e t ht h => by
        by_cases h2 : t < i
        · exact HP.out t ht h2
        · obtain rfl : t = i := by omega
          exact e
      have HPP := Lib.hid hp; clear hp
      have HY := Lib.hid (HYES.out i hlt)
      by_cases hx : ls[i].l.length ≠ n0
      · rw [decide_eq_true hx] at hcc
        have HR := Lib.hid (HY.out hx)
        clear hx HPP HY
        generalize ls[i].l.length = m at k0 hcc
        generalize ls[i].A = Ai at k0 hcc
        generalize ls[i].c = ci at k0 hcc
        have HCC := Lib.hid hcc; clear hcc
        go_wp2_with fail
        refine HCC.out.mono ?_
        rintro e w2 ⟨rfl, hb2⟩
        have HB2 := Lib.hid (HBW.out.trans (hb2.mono hgs))
        clear hb2 k0
        go_wp2_with fail
        go_ret
        exact ⟨(i : Int), rfl, by rw [HR.out]; exact decide_eq_true (by omega), HB2.out⟩
      · rw [decide_eq_false hx] at hcc
        have HP2 := Lib.hid (HPP.out hx)
        clear hx HPP HY
        generalize ls[i].l.length = m at k0 hcc
        generalize ls[i].A = Ai at k0 hcc
        generalize ls[i].c = ci at k0 hcc
        have HCC := Lib.hid hcc; clear hcc
        go_wp2_with fail
        refine HCC.out.mono ?_
        rintro e w2 ⟨rfl, hb2⟩
        have HB2 := Lib.hid (HBW.out.trans (hb2.mono hgs))
        clear hb2 k0
        go_wp2_with fail
        go_roundw
        case rel => exact ⟨i + 1, by omega, by go_num, HB2, HP2⟩
        case measure => simp [intOf]; omega
    · obtain rfl : i = ls.length := by omega
      have HR := Lib.hid (HNO.out fun t ht => HP.out t ht ht)
      go_wp2_with fail
      go_ret
      exact ⟨-1, rfl, by rw [HR.out]; rfl, HBW.out⟩

set_option maxHeartbeats 1000000 in
set_option maxRecDepth 100000 in
theorem lcontains_any (ls : List LI) (B n0 : Nat) (v : Value) (w : World) (hv : RdLL w w.heap.size v ls) (hB : ∀ W, Below w.heap.size w W → HeadAt W B n0) (hl : ls.length < 4611686018427387904) :
    Calls Try.prog 21 #[v, .func (.func 20) #[] #[.pointer (some ⟨B, 0, none⟩)]] w fun e w' => e = .returned (.bool (decide (∃ j, ∃ h : j < ls.length, ls[j].l.length ≠ n0))) ∧ Below w.heap.size w w' := by
  have HI := Lib.hid (lindex_any ls B n0 v w hv hB hl)
  obtain ⟨A, c, rfl, -, -⟩ := hv.keep
  clear hv hB hl
  generalize decide (∃ j, ∃ h : j < ls.length, ls[j].l.length ≠ n0) = R at HI ⊢
  go_enter Try.func21, Try.ntmps21
  go_wp2_with fail
  refine HI.out.mono ?_
  rintro e w1 ⟨r, rfl, hr, hb⟩
  have HB := Lib.hid hb
  clear hb
  have HR := Lib.hid hr
  clear hr
  go_wp2_with fail
  go_ret
  exact ⟨by rw [← HR.out]; rfl, HB.out⟩

theorem RdP.keep {w : World} {B : Nat} {v : Value} {l : List (K × K)} (h : RdP w B v l) : ∃ A c, v = .slice A l.length c ∧ l.length ≤ c ∧ ∀ i (_ : i < l.length), ∃ b o, A = some ⟨b, o, none⟩ ∧ ∀ W, Below B w W →
    W.cell? ⟨b, o + i * 2, none⟩ = some (.string l[i].1) ∧ W.cell? ⟨b, o + i * 2 + 1, none⟩ = some (.string l[i].2) := by
  obtain ⟨A, c, hv, hc, hi⟩ := h
  refine ⟨A, c, hv, hc, fun i hs => ?_⟩
  obtain ⟨b, o, hA, hB, h1⟩ := hi i hs
  exact ⟨b, o, hA, fun W hW => ⟨(hW.cell (p := ⟨b, _, none⟩) hB).trans (h1 0 _ rfl), (hW.cell (p := ⟨b, _, none⟩) hB).trans (h1 1 _ rfl)⟩⟩
set_option maxHeartbeats 1000000 in
set_option maxRecDepth 100000 in
theorem inverted_any (s : K × K) (w : World) : Calls Try.prog 26 #[.agg #[.string s.1, .string s.2]] w fun e w' => e = .returned (.bool (decide (s.2 < s.1))) ∧ Below w.heap.size w w' := by
  obtain ⟨x, y⟩ := s
  simp only
  go_enter Try.func26, Try.ntmps26
  go_wp2_with fail
  go_ret
  exact ⟨rfl, (Below.refl _ w).alloc (Nat.le_refl _) _⟩

set_option maxHeartbeats 4000000 in
set_option maxRecDepth 100000 in
theorem sindex_any (l : List (K × K)) (v : Value) (w : World) (hv : RdP w w.heap.size v l) (hl : l.length < 4611686018427387904) :
    Calls Try.prog 33 #[v, .func (.func 26) #[] #[]] w fun e w' => ∃ r : Int, e = .returned (.int .i64 r) ∧ decide (0 ≤ r) = decide (∃ j, ∃ h : j < l.length, l[j].2 < l[j].1) ∧ Below w.heap.size w w' := by
  obtain ⟨A, c, rfl, hc, hk⟩ := RdP.keep hv
  obtain ⟨g, hg⟩ : ∃ g, g = w.heap.size := ⟨_, rfl⟩
  rw [← hg]
  have hgw : Below g w w := Below.refl _ _
  have HK := Lib.hid (fun i (h : i < l.length) => hk i h)
  have HCL := Lib.hid (fun i (h : i < l.length) W (_ : Below w.heap.size w W) => inverted_any l[i] W)
  clear hv hk
  rw [← hg] at HK HCL
  have HG := Lib.hid hg; clear hg
  obtain ⟨R, hR⟩ : ∃ R, R = decide (∃ j, ∃ h : j < l.length, l[j].2 < l[j].1) := ⟨_, rfl⟩
  rw [← hR]
  have HYES := Lib.hid (fun i (h : i < l.length) (e : l[i].2 < l[i].1) => (show R = true by rw [hR]; exact decide_eq_true ⟨i, h, e⟩))
  have HNO := Lib.hid (fun (e : ∀ i (h : i < l.length), ¬ l[i].2 < l[i].1) => (show R = false by rw [hR]; exact decide_eq_false fun ⟨i, h, f⟩ => e i h f))
  clear hR
  have HB0 := Lib.hid hgw; clear hgw
  go_enter Try.func33, Try.ntmps33
  go_wp2_with fail
  go_loopw [8] (fun iv wr => ∃ i : Nat, i ≤ l.length ∧ iv = .int .i64 i ∧ Hid (Below g w wr) ∧ Hid (∀ t (_ : t < l.length), t < i → ¬ l[t].2 < l[t].1)) (fun iv _ => l.length - (intOf iv).toNat)
  case atStart => exact ⟨0, Nat.zero_le _, rfl, HB0, Lib.hid (fun t _ h => absurd h (Nat.not_lt_zero _))⟩
  case round =>
    obtain ⟨i, hil, rfl, HBW, HP⟩ := hrel
    by_cases hlt : i < l.length
    · obtain ⟨b, o, rfl, hcell⟩ := HK.out i hlt
      have k0 := hcell wr HBW.out
      clear hcell
      obtain ⟨k0, k1⟩ := k0
      have hI : (i : Int) < (l.length : Int) := by omega
      have hcc := HCL.out i hlt wr HBW.out
      have hgs : g ≤ wr.heap.size := by rw [HG.out]; exact (show Below w.heap.size w wr from by rw [← HG.out]; exact HBW.out).size
      have hp : ¬ l[i].2 < l[i].1 → ∀ t (_ : t < l.length), t < i + 1 → ¬ l[t].2 < l[t].1 := fun e t ht h => by
        by_cases h2 : t < i
        · exact HP.out t ht h2
        · obtain rfl : t = i := by omega
          exact e
      have HPP := Lib.hid hp; clear hp
      have HY := Lib.hid (HYES.out i hlt)
      by_cases hx : l[i].2 < l[i].1
      · rw [decide_eq_true hx] at hcc
        have HR := Lib.hid (HY.out hx)
        clear hx HPP HY
        generalize l[i] = z at k0 k1 hcc
        obtain ⟨zx, zy⟩ := z
        simp only at k0 k1 hcc
        have HCC := Lib.hid hcc; clear hcc
        go_wp2_with fail
        refine HCC.out.mono ?_
        rintro e w2 ⟨rfl, hb2⟩
        have HB2 := Lib.hid (HBW.out.trans (hb2.mono hgs))
        clear hb2 k0 k1
        go_wp2_with fail
        go_ret
        exact ⟨(i : Int), rfl, by rw [HR.out]; exact decide_eq_true (by omega), HB2.out⟩
      · rw [decide_eq_false hx] at hcc
        have HP2 := Lib.hid (HPP.out hx)
        clear hx HPP HY
        generalize l[i] = z at k0 k1 hcc
        obtain ⟨zx, zy⟩ := z
        simp only at k0 k1 hcc
        have HCC := Lib.hid hcc; clear hcc
        go_wp2_with fail
        refine HCC.out.mono ?_
        rintro e w2 ⟨rfl, hb2⟩
        have HB2 := Lib.hid (HBW.out.trans (hb2.mono hgs))
        clear hb2 k0 k1
        go_wp2_with fail
        go_roundw
        case rel => exact ⟨i + 1, by omega, by go_num, HB2, HP2⟩
        case measure => simp [intOf]; omega
    · obtain rfl : i = l.length := by omega
      have HR := Lib.hid (HNO.out fun t ht => HP.out t ht ht)
      go_wp2_with fail
      go_ret
      exact ⟨-1, rfl, by rw [HR.out]; rfl, HBW.out⟩

set_option maxHeartbeats 1000000 in
set_option maxRecDepth 100000 in
theorem scontains_any (l : List (K × K)) (v : Value) (w : World) (hv : RdP w w.heap.size v l) (hl : l.length < 4611686018427387904) :
    Calls Try.prog 25 #[v, .func (.func 26) #[] #[]] w fun e w' => e = .returned (.bool (decide (∃ j, ∃ h : j < l.length, l[j].2 < l[j].1))) ∧ Below w.heap.size w w' := by
  have HI := Lib.hid (sindex_any l v w hv hl)
  obtain ⟨A, c, rfl, -, -⟩ := RdP.keep hv
  clear hv hl
  generalize decide (∃ j, ∃ h : j < l.length, l[j].2 < l[j].1) = R at HI ⊢
  go_enter Try.func25, Try.ntmps25
  go_wp2_with fail
  refine HI.out.mono ?_
  rintro e w1 ⟨r, rfl, hr, hb⟩
  have HB := Lib.hid hb
  clear hb
  have HR := Lib.hid hr
  clear hr
  go_wp2_with fail
  go_ret
  exact ⟨by rw [← HR.out]; rfl, HB.out⟩
end Go.Proofs.Ytmakgjokadcfjaa
