/- Arguments of the marks laws as data: changes, spans, transactions, lists of them, acts. A referee as a state: what each call of it answers; pure. The program's referee. What referees share: new memory, moved memory; the simplest facts. -/
import Derived.Test.YtgppgecglkellaaGreatFaa
import Derived.Test.YtgppgecglkellaaGreatFaq
import Derived.Test.YtgppgecglkellaaGreatFad
namespace Go.Proofs.YtgppgecglkellaaGreat
open Go.ChangeShapes Go.WideShapes Go.ChangeAt Go.RowKit Go.Joins Go.Deep

def PairD {H : Type} (s : K × K) (d : DataW H) : Prop := d = .agg [.lit (.string s.1.data.toList), .lit (.string s.2.data.toList)]
def ChgD {H : Type} (c : Chg) (d : DataW H) : Prop := ∃ y, d = .agg [y, .lit (.string c.key.data.toList), .lit (.string c.val.data.toList)]

section
variable {H : Type} {enc : TypeId × Value → H} {w : World} {base : Nat} {spare : Nat → Bool} {held : Bool}
set_option maxRecDepth 100000 in
theorem span_of_cells {fuel : Nat} {cs : List Value} {x : DataW H × List MemPlace} (h : DataW.trod enc Tryz.prog w base spare held fuel 52 cs = some x) : ∃ s : K × K, cs = cellsS s ∧ PairD s x.1 := by
  obtain ⟨y0, y1, n, hx, hlen, h0, h1⟩ := trod_struct2 Tryz.underlying52 h
  rw [show Tryz.prog.cellsOf 52 = 2 by kernel_rfl] at hlen
  match cs, hlen with
  | [u, v], _ =>
    have c9 : Tryz.prog.cellsOf 9 = 1 := by kernel_rfl
    simp [c9] at h0 h1
    obtain ⟨a, ea, xa, ha⟩ := DataW.trod_string Tryz.underlying9 h0
    obtain ⟨b, eb, xb, hb⟩ := DataW.trod_string Tryz.underlying9 h1
    simp at ea eb
    exact ⟨(a, b), by rw [ea, eb]; rfl, by rw [hx, xa, xb]; rfl⟩
set_option maxRecDepth 100000 in
theorem chg_of_cells {fuel : Nat} {cs : List Value} {x : DataW H × List MemPlace} (h : DataW.trod enc Tryz.prog w base spare held fuel 58 cs = some x) : ∃ s : Chg, cs = encC s ∧ ChgD s x.1 := by
  obtain ⟨y0, y1, y2, n, hx, hlen, h0, h1, h2⟩ := trod_struct3 Tryz.underlying58 h
  rw [show Tryz.prog.cellsOf 58 = 3 by kernel_rfl] at hlen
  match cs, hlen with
  | [u, v, t], _ =>
    have c9 : Tryz.prog.cellsOf 9 = 1 := by kernel_rfl
    have c3 : Tryz.prog.cellsOf 3 = 1 := by kernel_rfl
    simp [c9, c3] at h0 h1 h2
    obtain ⟨m, em, _, _⟩ := DataW.trod_int Tryz.underlying3 h0
    obtain ⟨a, ea, xa, ha⟩ := DataW.trod_string Tryz.underlying9 h1
    obtain ⟨b, eb, xb, hb⟩ := DataW.trod_string Tryz.underlying9 h2
    simp at em ea eb
    exact ⟨⟨m, a, b⟩, by rw [em, ea, eb]; rfl, y0.1, by rw [hx, xa, xb]⟩
end
set_option maxRecDepth 100000 in
theorem SizedL.lenC {H : Type} {d : DataW H} {l : List Chg} (hs : SizedL ChgD d l) (hw : ∀ n ∈ d.weights Tryz.prog 45, n ≤ reachBytes) : l.length < 4611686018427387904 ∧ ∀ c ∈ l, smallC c := by
  rcases hs with ⟨_, rfl⟩ | ⟨el, sp, rfl, he, hall⟩
  · simp
  · have h1 := slice_len Tryz.underlying45 hw
    rw [show Tryz.prog.bytesOf 58 = 40 by kernel_rfl] at h1
    refine ⟨by omega, fun s hs => ?_⟩
    obtain ⟨i, hi, rfl⟩ := List.getElem_of_mem hs
    obtain ⟨d', h2, y, rfl⟩ := hall i hi
    have hm : ∀ n, n ∈ (DataW.agg [y, .lit (.string l[i].key.data.toList), .lit (.string l[i].val.data.toList)]).weights Tryz.prog 58 → n ≤ reachBytes := fun n hn => hw n (weights_el Tryz.underlying45 h2 hn)
    have a := hm l[i].key.data.toList.length (by simp [DataW.weights, DataW.weightsEach, Tryz.underlying58])
    have b := hm l[i].val.data.toList.length (by simp [DataW.weights, DataW.weightsEach, Tryz.underlying58])
    rw [show reachBytes = 140737488351232 from rfl] at a b
    have e : ∀ k : K, k.data.toList.length = k.size := fun k => by simp
    rw [e] at a b
    exact ⟨by omega, by omega⟩
set_option maxRecDepth 100000 in
theorem SizedL.lenS {H : Type} {d : DataW H} {l : List (K × K)} (hs : SizedL PairD d l) (hw : ∀ n ∈ d.weights Tryz.prog 44, n ≤ reachBytes) : l.length < 4611686018427387904 ∧ ∀ s ∈ l, s.1.size < 4611686018427387904 ∧ s.2.size < 4611686018427387904 := by
  rcases hs with ⟨_, rfl⟩ | ⟨el, sp, rfl, he, hall⟩
  · simp
  · have h1 := slice_len Tryz.underlying44 hw
    rw [show Tryz.prog.bytesOf 52 = 32 by kernel_rfl] at h1
    refine ⟨by omega, fun s hs => ?_⟩
    obtain ⟨i, hi, rfl⟩ := List.getElem_of_mem hs
    obtain ⟨d', h2, h3⟩ := hall i hi
    unfold PairD at h3
    subst h3
    have hm : ∀ n, n ∈ (DataW.agg [.lit (.string l[i].1.data.toList), .lit (.string l[i].2.data.toList)]).weights Tryz.prog 52 → n ≤ reachBytes := fun n hn => hw n (weights_el Tryz.underlying44 h2 hn)
    have a := hm l[i].1.data.toList.length (by simp [DataW.weights, DataW.weightsEach, Tryz.underlying52])
    have b := hm l[i].2.data.toList.length (by simp [DataW.weights, DataW.weightsEach, Tryz.underlying52])
    rw [show reachBytes = 140737488351232 from rfl] at a b
    have e : ∀ k : K, k.data.toList.length = k.size := fun k => by simp
    rw [e] at a b
    exact ⟨by omega, by omega⟩
/-- what is known of a transaction's data -/
def TxD {H : Type} (W : World) (x : TxV) (d : DataW H) : Prop := RdP W W.heap.size x.v1 x.t.reads ∧ RdC W W.heap.size x.v2 x.t.chgs ∧ I64 x.t.read ∧ ∃ y0 y1 y2, d = .agg [y0, y1, y2] ∧ SizedL PairD y1 x.t.reads ∧ SizedL ChgD y2 x.t.chgs
section
variable {H : Type} {enc : TypeId × Value → H} {W : World}
set_option maxRecDepth 100000 in
theorem spans_of_slice {v : Value} {d : DataW H} {p : List MemPlace} (hv : ∃ a len cap, v = .slice a len cap) (h : DataW.Trod enc Tryz.prog W 0 (fun _ => true) true 44 v d p) : ∃ l, RdP W W.heap.size v l ∧ SizedL PairD d l :=
  haveI : Inhabited (K × K) := ⟨(⟨#[]⟩, ⟨#[]⟩)⟩
  open_rowsF (by decide) cellsS_len Tryz.underlying44 (by kernel_rfl) _ (fun _ _ _ h => span_of_cells h) hv h
set_option maxRecDepth 100000 in
theorem chgs_of_slice {v : Value} {d : DataW H} {p : List MemPlace} (hv : ∃ a len cap, v = .slice a len cap) (h : DataW.Trod enc Tryz.prog W 0 (fun _ => true) true 45 v d p) : ∃ l, RdC W W.heap.size v l ∧ SizedL ChgD d l :=
  haveI : Inhabited Chg := ⟨⟨0, ⟨#[]⟩, ⟨#[]⟩⟩⟩
  open_rowsF (by decide) encC_len Tryz.underlying45 (by kernel_rfl) _ (fun _ _ _ h => chg_of_cells h) hv h
set_option maxRecDepth 100000 in
theorem tx_of_cells {fuel : Nat} {cs : List Value} {x : DataW H × List MemPlace} (h : DataW.trod enc Tryz.prog W 0 (fun _ => true) true fuel 47 cs = some x) : ∃ a : TxV, cs = encTx a ∧ TxD W a x.1 := by
  obtain ⟨y0, y1, y2, n, hx, hlen, h0, h1, h2⟩ := trod_struct3 Tryz.underlying47 h
  rw [show Tryz.prog.cellsOf 47 = 3 by kernel_rfl] at hlen
  match cs, hlen with
  | [u, v, t], _ =>
    have c3 : Tryz.prog.cellsOf 3 = 1 := by kernel_rfl
    have cs1 : Tryz.prog.cellsOf 44 = 1 := by kernel_rfl
    have cc1 : Tryz.prog.cellsOf 45 = 1 := by kernel_rfl
    simp [c3, cs1, cc1] at h0 h1 h2
    obtain ⟨i0, e0, _, w0⟩ := DataW.trod_int Tryz.underlying3 h0
    simp at e0
    obtain ⟨hs1, ht1⟩ := slice_of Tryz.underlying44 h1
    obtain ⟨hs2, ht2⟩ := slice_of Tryz.underlying45 h2
    obtain ⟨l1, hr1, hz1⟩ := spans_of_slice hs1 ht1
    obtain ⟨l2, hr2, hz2⟩ := chgs_of_slice hs2 ht2
    exact ⟨⟨⟨i0, l1, l2⟩, v, t⟩, by rw [e0]; rfl, hr1, hr2, int_of_wf w0, y0.1, y1.1, y2.1, by rw [hx], hz1, hz2⟩
set_option maxRecDepth 100000 in
theorem TxD.fit {x : TxV} {d : DataW H} (h : TxD W x d) (hw : ∀ n ∈ d.weights Tryz.prog 47, n ≤ reachBytes) : fitT x.t := by
  obtain ⟨_, _, _, y0, y1, y2, rfl, hz1, hz2⟩ := h
  have q1 := hz1.lenS (fun n hn => hw n (by simp only [DataW.weights, Tryz.underlying47, List.map_cons, List.map_nil, DataW.weightsEach, List.mem_append]; simp only [hn, true_or, or_true]))
  have q2 := hz2.lenC (fun n hn => hw n (by simp only [DataW.weights, Tryz.underlying47, List.map_cons, List.map_nil, DataW.weightsEach, List.mem_append]; simp only [hn, true_or, or_true]))
  exact ⟨q1.1, q1.2, q2.1, q2.2⟩
set_option maxRecDepth 100000 in
theorem txs_of_slice {v : Value} {d : DataW H} {p : List MemPlace} (hv : ∃ a len cap, v = .slice a len cap) (h : DataW.Trod enc Tryz.prog W 0 (fun _ => true) true 31 v d p) : ∃ l, Rd encTx 3 W W.heap.size v l ∧ SizedL (TxD W) d l :=
  haveI : Inhabited TxV := ⟨⟨zeroT, .bool false, .bool false⟩⟩
  open_rowsF (e2 := encTx) (k := 3) (by decide) encTx_len Tryz.underlying31 (by kernel_rfl) (TxD W) (fun _ _ _ h => tx_of_cells h) hv h
set_option maxRecDepth 100000 in
theorem tx_ok {v : Value} {d : DataW H} {l : List TxV} (hr : Rd encTx 3 W W.heap.size v l) (hz : SizedL (TxD W) d l) (hw : ∀ n ∈ d.weights Tryz.prog 31, n ≤ reachBytes) : TxOk W v l := by
  have hall : ∀ x ∈ l, RdP W W.heap.size x.v1 x.t.reads ∧ RdC W W.heap.size x.v2 x.t.chgs ∧ I64 x.t.read ∧ fitT x.t := by
    rcases hz with ⟨_, rfl⟩ | ⟨el, sp, rfl, he, hall⟩
    · simp
    · intro s hs
      obtain ⟨i, hi, rfl⟩ := List.getElem_of_mem hs
      obtain ⟨d', h1, h2⟩ := hall i hi
      exact ⟨h2.1, h2.2.1, h2.2.2.1, h2.fit fun n hn => hw n (weights_el Tryz.underlying31 h1 hn)⟩
  exact ⟨⟨RdG.of hr (fun _ _ h => h), fun x hx => ⟨RdG.of (hall x hx).1 (fun _ _ h => h), RdG.of (hall x hx).2.1 (fun _ _ h => h)⟩⟩, fun x hx => (hall x hx).2.2.2, fun x hx => (hall x hx).2.2.1⟩
def MActD {H : Type} (W : World) (a : MAct) (d : DataW H) : Prop := Rd encTx 3 W W.heap.size a.v a.ts ∧ I64 a.ver ∧ ∃ y0 y1 y2 y3, d = .agg [y0, y1, y2, y3] ∧ SizedL (TxD W) y3 a.ts
end
section
variable {H : Type} {enc : TypeId × Value → H} {W : World} {base : Nat} {v : Value} {d : DataW H} {p : List MemPlace}
set_option maxRecDepth 100000 in
theorem open_txs (hv : Value.okWide Tryz.prog W .any base 31 v) (h : DataW.Trod enc Tryz.prog W 0 (fun _ => true) true 31 v d p) (hw : ∀ n ∈ d.weights Tryz.prog 31, n ≤ reachBytes) : ∃ l, TxOk W v l := by
  obtain ⟨l, hr, hz⟩ := txs_of_slice (by obtain ⟨a, len, cap, rfl⟩ := okWide_slice Tryz.underlying31 hv; exact ⟨a, len, cap, rfl⟩) h
  exact ⟨l, tx_ok hr hz hw⟩
set_option maxRecDepth 100000 in
theorem open_slice_any (hv : Value.okWide Tryz.prog W .any base 31 v) : ∃ a len cap, v = .slice a len cap := by
  obtain ⟨a, len, cap, rfl⟩ := okWide_slice Tryz.underlying31 hv
  exact ⟨a, len, cap, rfl⟩
set_option maxRecDepth 100000 in
theorem open_mchgs (hv : Value.okWide Tryz.prog W .any base 45 v) (h : DataW.Trod enc Tryz.prog W 0 (fun _ => true) true 45 v d p) (hw : ∀ n ∈ d.weights Tryz.prog 45, n ≤ reachBytes) : ∃ l, TxIn W ⟨0, [], l⟩ (.slice none 0 0) v := by
  obtain ⟨l, hr, hz⟩ := chgs_of_slice (by obtain ⟨a, len, cap, rfl⟩ := okWide_slice Tryz.underlying45 hv; exact ⟨a, len, cap, rfl⟩) h
  have q := hz.lenC hw
  exact ⟨l, ⟨none, 0, rfl, Nat.zero_le _, fun i hi => by simp at hi⟩, hr, ⟨by simp, by simp, q.1, q.2⟩, by show I64 0; unfold I64; omega⟩
set_option maxRecDepth 100000 in
theorem open_mtxn (hv : Value.okWide Tryz.prog W .any base 47 v) (h : DataW.Trod enc Tryz.prog W 0 (fun _ => true) true 47 v d p) (hw : ∀ n ∈ d.weights Tryz.prog 47, n ≤ reachBytes) :
    ∃ (t : Txn) (x1 x2 : Value), v = tval t x1 x2 ∧ TxIn W t x1 x2 := by
  obtain ⟨v0, v1, v2, y0, y1, y2, n, rfl, rfl, _, h0, h1, h2⟩ := open_agg3 Tryz.underlying47 (by kernel_rfl) (by kernel_rfl) hv h
  obtain ⟨i0, e0, _, g0⟩ := DataW.trod_int Tryz.underlying3 h0
  simp at e0
  obtain ⟨hs1, ht1⟩ := slice_of Tryz.underlying44 h1
  obtain ⟨hs2, ht2⟩ := slice_of Tryz.underlying45 h2
  obtain ⟨l1, hr1, hz1⟩ := spans_of_slice hs1 ht1
  obtain ⟨l2, hr2, hz2⟩ := chgs_of_slice hs2 ht2
  have q1 := hz1.lenS (fun n hn => hw n (by simp only [DataW.weights, Tryz.underlying47, List.map_cons, List.map_nil, DataW.weightsEach, List.mem_append]; simp only [hn, true_or, or_true]))
  have q2 := hz2.lenC (fun n hn => hw n (by simp only [DataW.weights, Tryz.underlying47, List.map_cons, List.map_nil, DataW.weightsEach, List.mem_append]; simp only [hn, true_or, or_true]))
  exact ⟨⟨i0, l1, l2⟩, v1, v2, by rw [e0]; rfl, hr1, hr2, ⟨q1.1, q1.2, q2.1, q2.2⟩, int_of_wf g0⟩
set_option maxRecDepth 100000 in
theorem open_chg (hv : Value.okWide Tryz.prog W .any base 58 v) (h : DataW.Trod enc Tryz.prog W 0 (fun _ => true) true 58 v d p) (hw : ∀ n ∈ d.weights Tryz.prog 58, n ≤ reachBytes) :
    ∃ c : Chg, v = cval c ∧ smallC c := by
  obtain ⟨a0, b0, c0, y0, z0, x0, m0, rfl, rfl, rfl, hy, hz, hx⟩ := open_agg3 Tryz.underlying58 (by kernel_rfl) (by kernel_rfl) hv h
  obtain ⟨k, ek, xk, _⟩ := DataW.trod_int Tryz.underlying3 hy
  obtain ⟨a, ea, xa, _⟩ := DataW.trod_string Tryz.underlying9 hz
  obtain ⟨b, eb, xb, _⟩ := DataW.trod_string Tryz.underlying9 hx
  simp at ek ea eb
  subst ek ea eb
  rw [xk, xa, xb] at hw
  have h1 := hw a.data.toList.length (by simp [DataW.weights, DataW.weightsEach, Tryz.underlying58])
  have h2 := hw b.data.toList.length (by simp [DataW.weights, DataW.weightsEach, Tryz.underlying58])
  rw [show reachBytes = 140737488351232 from rfl] at h1 h2
  have e : ∀ k : K, k.data.toList.length = k.size := fun k => by simp
  rw [e] at h1 h2
  exact ⟨⟨k, a, b⟩, rfl, by simp only; omega, by simp only; omega⟩
set_option maxRecDepth 100000 in
theorem open_span (hv : Value.okWide Tryz.prog W .any base 52 v) (h : DataW.Trod enc Tryz.prog W 0 (fun _ => true) true 52 v d p) (hw : ∀ n ∈ d.weights Tryz.prog 52, n ≤ reachBytes) :
    ∃ s : K × K, v = .agg #[.string s.1, .string s.2] ∧ s.1.size < 4611686018427387904 ∧ s.2.size < 4611686018427387904 := by
  obtain ⟨a0, b0, y0, z0, m0, rfl, rfl, rfl, hy, hz⟩ := open_agg2 Tryz.underlying52 (by kernel_rfl) (by kernel_rfl) hv h
  obtain ⟨a, ea, xa, _⟩ := DataW.trod_string Tryz.underlying9 hy
  obtain ⟨b, eb, xb, _⟩ := DataW.trod_string Tryz.underlying9 hz
  simp at ea eb
  subst ea eb
  rw [xa, xb] at hw
  have h1 := hw a.data.toList.length (by simp [DataW.weights, DataW.weightsEach, Tryz.underlying52])
  have h2 := hw b.data.toList.length (by simp [DataW.weights, DataW.weightsEach, Tryz.underlying52])
  rw [show reachBytes = 140737488351232 from rfl] at h1 h2
  have e : ∀ k : K, k.data.toList.length = k.size := fun k => by simp
  rw [e] at h1 h2
  exact ⟨(a, b), rfl, by simp only; omega, by simp only; omega⟩
end
end Go.Proofs.YtgppgecglkellaaGreat
namespace Go.Proofs.YtgppgecglkellaaGreat

structure Rf where
  epoch : Int
  version : Int
  mks : Mk
  judged : Bool
  told : List Int
namespace Rf
def new : Rf := ⟨0, 0, mnew 0, false, []⟩
def begin_ (r : Rf) (e v : Int) : Int × Rf := if e < 1 ∨ v < 0 then (1, r) else if e < r.epoch then (7, r) else if e = r.epoch then (0, r) else (0, ⟨e, v, mnew v, false, []⟩)
open Classical in
noncomputable def judge (r : Rf) (e p v : Int) (ts : List Txn) : List Int × Int × Rf :=
  if e ≠ r.epoch ∨ r.epoch = 0 then ([], 4, r) else
  if v = r.version ∧ r.judged = true then (r.told, 0, r) else
  if v < r.version then ([], 7, r) else
  if p ≠ r.version ∨ v = r.version then ([], 9, r) else
  if jerr r.mks v ts ≠ 0 then ([], jerr r.mks v ts, r) else
  (jout r.mks v ts, 0, ⟨r.epoch, v, fnext (jnext r.mks v ts) (v - 100), true, jout r.mks v ts⟩)
theorem judge_new {r : Rf} {e p v : Int} {ts : List Txn} (h1 : e = r.epoch) (h2 : r.epoch ≠ 0) (h3 : r.version < v) (h4 : p = r.version) (h5 : jerr r.mks v ts = 0) :
    r.judge e p v ts = (jout r.mks v ts, 0, ⟨r.epoch, v, fnext (jnext r.mks v ts) (v - 100), true, jout r.mks v ts⟩) := by
  unfold judge
  rw [if_neg (by rintro (h | h); exact h h1; exact h2 h), if_neg (by omega), if_neg (by omega), if_neg (by omega), if_neg (by simpa using h5)]
theorem judge_bad {r : Rf} {e p v : Int} {ts : List Txn} (h1 : e = r.epoch) (h2 : r.epoch ≠ 0) (h3 : r.version < v) (h4 : p = r.version) (h5 : jerr r.mks v ts ≠ 0) :
    r.judge e p v ts = ([], jerr r.mks v ts, r) := by
  unfold judge
  rw [if_neg (by rintro (h | h); exact h h1; exact h2 h), if_neg (by omega), if_neg (by omega), if_neg (by omega), if_pos h5]
theorem judge_again {r : Rf} {e p v : Int} {ts : List Txn} (h1 : e = r.epoch) (h2 : r.epoch ≠ 0) (h3 : v = r.version) (h4 : r.judged = true) : r.judge e p v ts = (r.told, 0, r) := by
  unfold judge
  rw [if_neg (by rintro (h | h); exact h h1; exact h2 h), if_pos ⟨h3, h4⟩]
theorem judge_old {r : Rf} {e p v : Int} {ts : List Txn} (h1 : e = r.epoch) (h2 : r.epoch ≠ 0) (h3 : v < r.version) : r.judge e p v ts = ([], 7, r) := by
  unfold judge
  rw [if_neg (by rintro (h | h); exact h h1; exact h2 h), if_neg (by omega), if_pos h3]
theorem judge_order {r : Rf} {e p v : Int} {ts : List Txn} (h1 : e = r.epoch) (h2 : r.epoch ≠ 0) (h3 : r.version < v) (h4 : p ≠ r.version) : r.judge e p v ts = ([], 9, r) := by
  unfold judge
  rw [if_neg (by rintro (h | h); exact h h1; exact h2 h), if_neg (by omega), if_neg (by omega), if_pos (.inl h4)]
theorem judge_none {r : Rf} {e p v : Int} {ts : List Txn} (h1 : e ≠ r.epoch) : r.judge e p v ts = ([], 4, r) := by
  unfold judge
  rw [if_pos (.inl h1)]
theorem judge_zero {r : Rf} {e p v : Int} {ts : List Txn} (h1 : r.epoch = 0) : r.judge e p v ts = ([], 4, r) := by
  unfold judge
  rw [if_pos (.inr h1)]
theorem judge_stop {r : Rf} {e p : Int} {ts : List Txn} (h1 : e = r.epoch) (h2 : r.epoch ≠ 0) (h3 : r.judged = false) : r.judge e p r.version ts = ([], 9, r) := by
  unfold judge
  rw [if_neg (by rintro (h | h); exact h h1; exact h2 h), if_neg (by rw [h3]; simp), if_neg (by omega), if_pos (.inr rfl)]
theorem begin_new (e v : Int) (h1 : 1 ≤ e) (h2 : 0 ≤ v) : new.begin_ e v = (0, ⟨e, v, mnew v, false, []⟩) := by
  unfold begin_ new
  simp only
  rw [if_neg (by omega), if_neg (by omega), if_neg (by omega)]
theorem begin_later {r : Rf} {e v : Int} (h1 : 1 ≤ e) (h2 : 0 ≤ v) (h3 : r.epoch < e) : r.begin_ e v = (0, ⟨e, v, mnew v, false, []⟩) := by
  unfold begin_
  rw [if_neg (by omega), if_neg (by omega), if_neg (by omega)]
theorem begin_elder {r : Rf} {e v : Int} (h1 : 1 ≤ e) (h2 : 0 ≤ v) (h3 : e < r.epoch) : r.begin_ e v = (7, r) := by
  unfold begin_
  rw [if_neg (by omega), if_pos h3]
theorem begin_same {r : Rf} {e v : Int} (h1 : 1 ≤ e) (h2 : 0 ≤ v) (h3 : e = r.epoch) : r.begin_ e v = (0, r) := by
  unfold begin_
  rw [if_neg (by omega), if_neg (by omega), if_pos h3]
end Rf
theorem jerr_nil {m : Mk} {v : Int} (h1 : m.floor < v) (h2 : m.most < v) : jerr m v [] = 0 := by
  unfold jerr
  rw [if_neg (by omega), if_neg (by simp)]
theorem jnil (m : Mk) (v : Int) : jout m v [] = [] ∧ jnext m v [] = m := by
  unfold jout jnext
  constructor
  · split <;> rfl
  · split <;> rfl
end Go.Proofs.YtgppgecglkellaaGreat
namespace Go.Proofs.YtgppgecglkellaaGreat
open Go.RowKit
attribute [local go_sem] less_eq same_eq le_eq ge_eq gt_eq

/-- a referee at block q; its blocks are among G; no more than n transactions were written in its marks -/
structure RfAt (w : World) (base q : Nat) (G : Nat → Prop) (n : Nat) (r : Rf) : Prop where
  blk : ∃ (mp : Option Nat) (tv : Value) (Gm : Nat → Prop), Whole w q 56 [.int .i64 r.epoch, .int .i64 r.version, .bool r.judged, tv, .pointer (mp.map fun k => ⟨k, 0, none⟩)] ∧
    RdG encI 1 w w.heap.size (fun i => i = q ∨ Gm i ∨ ¬ G i) tv r.told ∧ (mp = none → r.epoch = 0) ∧ (∀ k, mp = some k → r.epoch ≠ 0 ∧ ∃ b0 n0, base ≤ b0 ∧ n0 ≤ n ∧ MkAt w b0 k Gm n0 r.mks) ∧ (∀ i, Gm i → G i) ∧ ¬ Gm q
  me : G q
  low : base ≤ w.heap.size ∧ ∀ i, G i → base ≤ i ∧ i < w.heap.size
  short : r.told.length ≤ 4
section
variable {w w' : World} {base q n : Nat} {G : Nat → Prop} {r : Rf}
theorem RfAt.mv {D : Nat → Prop} (h : RfAt w base q G n r) (hm : Mv D w w') (hn : ∀ i, G i → ¬ D i) : RfAt w' base q G n r := by
  obtain ⟨mp, tv, Gm, hW, hT, h0, h1, hs, hq⟩ := h.blk
  refine ⟨⟨mp, tv, Gm, hm.whole hW (hn q h.me), (hT.mv hm (Nat.le_refl _) (fun b _ hd => .inr (.inr fun hg => hn b hg hd))).mono hm.size (fun _ _ h => h), h0, fun k hk => ?_, hs, hq⟩, h.me, ⟨Nat.le_trans h.low.1 hm.size, fun i hi => ⟨(h.low.2 i hi).1, Nat.lt_of_lt_of_le (h.low.2 i hi).2 hm.size⟩⟩, h.short⟩
  obtain ⟨he, b0, n0, hb, hn0, hk⟩ := h1 k hk
  exact ⟨he, b0, n0, hb, hn0, hk.mv hm (fun i hi => hn i (hs i hi))⟩
theorem RfAt.fresh (h : RfAt w base q G n r) (hb : Below w.heap.size w w') : RfAt w' base q G n r := h.mv (Mv.of_new hb (fun _ => False)) (fun _ _ h => h)
theorem RfAt.wide {n' : Nat} (h : RfAt w base q G n r) (hn : n ≤ n') : RfAt w base q G n' r := by
  obtain ⟨mp, tv, Gm, hW, hT, h0, h1, hs, hq⟩ := h.blk
  exact ⟨⟨mp, tv, Gm, hW, hT, h0, fun k hk => (by obtain ⟨he, b0, n0, hb, hn0, hk⟩ := h1 k hk; exact ⟨he, b0, n0, hb, Nat.le_trans hn0 hn, hk⟩), hs, hq⟩, h.me, h.low, h.short⟩
end
set_option maxHeartbeats 1000000 in
set_option maxRecDepth 100000 in
theorem cloneI_any (l : List Int) (v : Value) (w : World) (hv : RdI w w.heap.size v l) (hl : l.length ≤ 17592186043904) :
    Calls Tryz.prog 16 #[v] w fun e w' => ∃ A c, e = .returned (.slice A l.length c) ∧ OwnI w' w.heap.size (.slice A l.length c) l ∧ Below w.heap.size w w' := by
  obtain ⟨A, c, rfl, hc, hi⟩ := hv.at
  have HV := Lib.hid hv; clear hv
  cases A with
  | none =>
    have hl0 : l = [] := by
      cases l with
      | nil => rfl
      | cons x r => obtain ⟨b, o, hA, _⟩ := hi 0 (by simp); cases hA
    subst hl0
    clear hi
    have hnil := fun W => Lib.run_eql_slice_nil (P := Tryz.prog) W 28 3 none 0 c 0 0 Tryz.underlying28
    go_enter Tryz.func16, Tryz.ntmps16
    go_wp2_with fail
    go_ret
    exact ⟨_, _, rfl, Own.nil _ _, Below.refl _ _⟩
  | some ad =>
    clear hi
    have hnil := fun W => Lib.run_eql_slice_nil (P := Tryz.prog) W 28 3 (some ad) l.length c 0 0 Tryz.underlying28
    go_enter Tryz.func16, Tryz.ntmps16
    go_wp2_with (at_builtin; go_must (refine wpList_addI rfl _ _ rfl w.heap.size _ [] rfl (Own.empty _ _ (Nat.le_refl _)) w.heap.size _ l rfl (HV.out.below ((Below.refl _ _).alloc (Nat.le_refl _) _) (Nat.le_refl _)) (by simp; omega) (by simp) w.heap.size w ((Below.refl _ w).alloc (Nat.le_refl _) _) (Nat.le_refl _) ?_))
    intro A' c' w' ho hg _
    have HO := Lib.hid (show OwnI w' w.heap.size (.slice A' l.length c') l from ho.out)
    have HG := Lib.hid hg.out
    go_wp2_with fail
    go_ret
    exact ⟨A', c', rfl, HO.out, HG.out⟩
set_option maxHeartbeats 1000000 in
set_option maxRecDepth 100000 in
theorem rfnew_any (w : World) : Calls Tryz.prog 6 #[] w fun e w' => ∃ q G, e = .returned (.pointer (some ⟨q, 0, none⟩)) ∧ RfAt w' w.heap.size q G 0 Rf.new ∧ Below w.heap.size w w' := by
  obtain ⟨w1, hw1⟩ : ∃ W, W = w.alloc (.cells #[.int .i64 0, .int .i64 0, .bool false, .slice none 0 0, .pointer none] 56) := ⟨_, rfl⟩
  have hb : Below w.heap.size w w1 := by rw [hw1]; exact (Below.refl _ w).alloc (Nat.le_refl _) _
  have hW : Whole w1 w.heap.size 56 [.int .i64 0, .int .i64 0, .bool false, .slice none 0 0, .pointer none] := by rw [hw1]; exact Whole.fresh w _ [_, _, _, _, _]
  have h1 : RfAt w1 w.heap.size w.heap.size (fun i => i = w.heap.size) 0 Rf.new :=
    ⟨⟨none, .slice none 0 0, fun _ => False, hW, RdG.none_ _ _ _ _ _, fun _ => rfl, (fun k hk => by cases hk), fun _ h => h.elim, fun h => h⟩, rfl, ⟨hb.size, fun i hi => ⟨by omega, by rw [hi]; exact hW.size⟩⟩, by simp [Rf.new]⟩
  have H1 := Lib.hid h1
  have HB := Lib.hid hb
  clear h1 hb hW
  go_enter Tryz.func6, Tryz.ntmps6
  go_wp2_with fail
  rw [← hw1]
  go_ret
  exact ⟨_, _, rfl, H1.out, HB.out⟩
set_option maxHeartbeats 4000000 in
set_option maxRecDepth 100000 in
theorem rfbegin_any (base q n : Nat) (G : Nat → Prop) (r : Rf) (e v : Int) (_he : I64 e) (hv : I64 v) (w : World) (h : RfAt w base q G n r) :
    Calls Tryz.prog 8 #[.pointer (some ⟨q, 0, none⟩), .int .i64 e, .int .i64 v] w fun o w' => o = .returned (.int .i64 (r.begin_ e v).1) ∧ ∃ G', RfAt w' base q G' n (r.begin_ e v).2 ∧ (∀ i, G' i → G i ∨ w.heap.size ≤ i) ∧ Mv G w w' := by
  obtain ⟨mp, tv, Gm, hW, -⟩ := h.blk
  have c0 := hW.cell 0 _ rfl
  have HW := Lib.hid hW
  have H := Lib.hid h
  have hqs := hW.size
  clear h hW
  have hcase : e < 1 ∨ (¬ e < 1 ∧ v < 0) ∨ (¬ e < 1 ∧ ¬ v < 0 ∧ e < r.epoch) ∨ (¬ e < 1 ∧ ¬ v < 0 ∧ e = r.epoch) ∨ (¬ e < 1 ∧ ¬ v < 0 ∧ r.epoch < e) := by omega
  rcases hcase with h1 | ⟨h1, h2⟩ | ⟨h1, h2, h3⟩ | ⟨h1, h2, h3⟩ | ⟨h1, h2, h3⟩
  · have hbg : r.begin_ e v = (1, r) := by unfold Rf.begin_; rw [if_pos (.inl h1)]
    rw [hbg]
    clear hbg
    have hb1 := decide_eq_true h1
    go_enter Tryz.func8, Tryz.ntmps8
    go_wp2_with fail
    go_ret
    exact ⟨rfl, G, H.out, fun _ h => .inl h, Mv.refl _ _⟩
  · have hbg : r.begin_ e v = (1, r) := by unfold Rf.begin_; rw [if_pos (.inr h2)]
    rw [hbg]
    clear hbg
    have hb1 := decide_eq_false h1
    have hb2 := decide_eq_true h2
    go_enter Tryz.func8, Tryz.ntmps8
    go_wp2_with fail
    go_ret
    exact ⟨rfl, G, H.out, fun _ h => .inl h, Mv.refl _ _⟩
  · have hbg : r.begin_ e v = (7, r) := by unfold Rf.begin_; rw [if_neg (by omega), if_pos h3]
    rw [hbg]
    clear hbg
    have hb1 := decide_eq_false h1
    have hb2 := decide_eq_false h2
    have hb3 := decide_eq_true h3
    go_enter Tryz.func8, Tryz.ntmps8
    go_wp2_with fail
    go_ret
    exact ⟨rfl, G, H.out, fun _ h => .inl h, Mv.refl _ _⟩
  · have hbg : r.begin_ e v = (0, r) := by unfold Rf.begin_; rw [if_neg (by omega), if_neg (by omega), if_pos h3]
    rw [hbg]
    clear hbg
    have hb1 := decide_eq_false h1
    have hb2 := decide_eq_false h2
    have hb3 : decide (e < r.epoch) = false := decide_eq_false (by omega)
    have hb4 : (e == r.epoch) = true := by simpa using h3
    clear h3
    go_enter Tryz.func8, Tryz.ntmps8
    go_wp2_with fail
    go_ret
    exact ⟨rfl, G, H.out, fun _ h => .inl h, Mv.refl _ _⟩
  · have hbg : r.begin_ e v = (0, ⟨e, v, mnew v, false, []⟩) := by unfold Rf.begin_; rw [if_neg (by omega), if_neg (by omega), if_neg (by omega)]
    rw [hbg]
    clear hbg
    have hb1 := decide_eq_false h1
    have hb2 := decide_eq_false h2
    have hb3 : decide (e < r.epoch) = false := decide_eq_false (by omega)
    have hb4 : (e == r.epoch) = false := by simpa using (show e ≠ r.epoch by omega)
    clear h3
    go_enter Tryz.func8, Tryz.ntmps8
    go_wp2_with fail
    refine (mknew_any v hv w).mono ?_
    rintro o w1 ⟨k, Gk, rfl, hk, hb⟩
    obtain ⟨w2, hw2⟩ : ∃ W, W = ((((w1.setCell ⟨q, 0, none⟩ (.int .i64 e)).setCell ⟨q, 1, none⟩ (.int .i64 v)).setCell ⟨q, 2, none⟩ (.bool false)).setCell ⟨q, 3, none⟩ (.slice none 0 0)).setCell ⟨q, 4, none⟩ (.pointer (some ⟨k, 0, none⟩)) := ⟨_, rfl⟩
    have hW1 := HW.out.below hb HW.out.size
    have hm2 : Mv (fun i => i = q) w1 w2 := by rw [hw2]; exact (((((Mv.refl (fun i => i = q) w1).setCell (p := ⟨q, 0, none⟩) (fun _ => rfl) _).setCell (p := ⟨q, 1, none⟩) (fun _ => rfl) _).setCell (p := ⟨q, 2, none⟩) (fun _ => rfl) _).setCell (p := ⟨q, 3, none⟩) (fun _ => rfl) _).setCell (p := ⟨q, 4, none⟩) (fun _ => rfl) _
    have hW2 : Whole w2 q 56 [.int .i64 e, .int .i64 v, .bool false, .slice none 0 0, .pointer (some ⟨k, 0, none⟩)] := by rw [hw2]; exact ((((hW1.put 0 _).put 1 _).put 2 _).put 3 _).put 4 _
    have hkq : ¬ Gk q := fun hg => by have := (hk.low.2 q hg).1; omega
    have hk2 := hk.mv hm2 (fun i hi e => hkq (e ▸ hi))
    have hfin : RfAt w2 base q (fun i => G i ∨ Gk i) n ⟨e, v, mnew v, false, []⟩ :=
      ⟨⟨some k, .slice none 0 0, Gk, hW2, RdG.none_ _ _ _ _ _, (fun h => by cases h), fun k' hk' => (by injection hk' with hk'; subst hk'; exact ⟨by show e ≠ 0; omega, w.heap.size, 0, H.out.low.1, Nat.zero_le _, hk2⟩), fun i hi => .inr hi, hkq⟩, .inl H.out.me, ⟨Nat.le_trans H.out.low.1 (Nat.le_trans hb.size hm2.size), fun i hi => by
        have e1 := hm2.size
        have e2 := hb.size
        have e3 := H.out.low.1
        rcases hi with hi | hi
        · have := H.out.low.2 i hi; exact ⟨this.1, by omega⟩
        · have := hk.low.2 i hi; exact ⟨by omega, by omega⟩⟩, by simp⟩
    have HFIN := Lib.hid hfin
    have HN2 := Lib.hid (fun i (hi : G i ∨ Gk i) => hi.elim .inl (fun hi => .inr (hk.low.2 i hi).1) : ∀ i, (G i ∨ Gk i) → G i ∨ w.heap.size ≤ i)
    have HM2 := Lib.hid (((Mv.of_new hb G).trans hm2 (fun i _ hi => by rw [hi]; exact H.out.me)))
    have q0 := hW1.cell 0 _ rfl
    have q1 := hW1.cell 1 _ rfl
    have q2 := hW1.cell 2 _ rfl
    have q3 := hW1.cell 3 _ rfl
    have q4 := hW1.cell 4 _ rfl
    have f0 := hW1.frozen 0
    have f1 := hW1.frozen 1
    have f2 := hW1.frozen 2
    have f3 := hW1.frozen 3
    have f4 := hW1.frozen 4
    clear hk hb hW1 hm2 hW2 hkq hk2 hfin c0 HW
    go_wp2_with fail
    rw [← hw2]
    go_ret
    exact ⟨rfl, _, HFIN.out, HN2.out, HM2.out⟩

set_option maxHeartbeats 4000000 in
set_option maxRecDepth 100000 in
theorem rfends_any (base q n : Nat) (G : Nat → Prop) (r : Rf) (w : World) (h : RfAt w base q G n r) :
    Calls Tryz.prog 12 #[.pointer (some ⟨q, 0, none⟩)] w fun o w' => o = .returned (.tuple #[.int .i64 r.epoch, .int .i64 r.version]) ∧ Below w.heap.size w w' := by
  obtain ⟨mp, tv, Gm, hW, -⟩ := h.blk
  have HW := Lib.hid hW
  clear h hW
  go_enter Tryz.func12, Tryz.ntmps12
  go_wp2_with fail
  obtain ⟨w1, hw1⟩ : ∃ W, W = w.drew := ⟨_, rfl⟩
  have hb1 : Below w.heap.size w w1 := by rw [hw1]; exact (Below.refl _ _).drew
  refine wp_region_planB [(true, 0), (true, 1), (true, 2), (true, 3), (true, 4), (true, 5), (true, 6), (true, 7), (true, 8), (true, 9)] (by kernel_rfl) (by kernel_rfl) (fun _ _ d _ _ h => by cases d <;> exact h) ?_
  rw [← hw1]
  clear hw1
  have HQ := Lib.hid (fun W (hW : Below w1.heap.size w1 W) => HW.out.below (hb1.trans (hW.mono hb1.size)) HW.out.size)
  refine PlanB.take (v := ?_) rfl rfl ?_ ?_; rotate_left; (focus (intro W hW; have k0 := (HQ.out W hW).cell 0 _ rfl; have k1 := (HQ.out W hW).cell 1 _ rfl; go_simp; (try with_reducible rfl); done)); (try simp only [Act.put, List.setIfInBounds_toArray, List.set_cons_zero, List.set_cons_succ])
  refine PlanB.take (v := ?_) rfl rfl ?_ ?_; rotate_left; (focus (intro W hW; have k0 := (HQ.out W hW).cell 0 _ rfl; have k1 := (HQ.out W hW).cell 1 _ rfl; go_simp; (try with_reducible rfl); done)); (try simp only [Act.put, List.setIfInBounds_toArray, List.set_cons_zero, List.set_cons_succ])
  refine PlanB.take (v := ?_) rfl rfl ?_ ?_; rotate_left; (focus (intro W hW; have k0 := (HQ.out W hW).cell 0 _ rfl; have k1 := (HQ.out W hW).cell 1 _ rfl; go_simp; (try with_reducible rfl); done)); (try simp only [Act.put, List.setIfInBounds_toArray, List.set_cons_zero, List.set_cons_succ])
  refine PlanB.take (v := ?_) rfl rfl ?_ ?_; rotate_left; (focus (intro W hW; have k0 := (HQ.out W hW).cell 0 _ rfl; have k1 := (HQ.out W hW).cell 1 _ rfl; go_simp; (try with_reducible rfl); done)); (try simp only [Act.put, List.setIfInBounds_toArray, List.set_cons_zero, List.set_cons_succ])
  refine PlanB.take (v := ?_) rfl rfl ?_ ?_; rotate_left; (focus (intro W hW; have k0 := (HQ.out W hW).cell 0 _ rfl; have k1 := (HQ.out W hW).cell 1 _ rfl; go_simp; (try with_reducible rfl); done)); (try simp only [Act.put, List.setIfInBounds_toArray, List.set_cons_zero, List.set_cons_succ])
  refine PlanB.take (v := ?_) rfl rfl ?_ ?_; rotate_left; (focus (intro W hW; have k0 := (HQ.out W hW).cell 0 _ rfl; have k1 := (HQ.out W hW).cell 1 _ rfl; go_simp; (try with_reducible rfl); done)); (try simp only [Act.put, List.setIfInBounds_toArray, List.set_cons_zero, List.set_cons_succ])
  refine PlanB.take (v := ?_) rfl rfl ?_ ?_; rotate_left; (focus (intro W hW; have k0 := (HQ.out W hW).cell 0 _ rfl; have k1 := (HQ.out W hW).cell 1 _ rfl; go_simp; (try with_reducible rfl); done)); (try simp only [Act.put, List.setIfInBounds_toArray, List.set_cons_zero, List.set_cons_succ])
  refine PlanB.take (v := ?_) rfl rfl ?_ ?_; rotate_left; (focus (intro W hW; have k0 := (HQ.out W hW).cell 0 _ rfl; have k1 := (HQ.out W hW).cell 1 _ rfl; go_simp; (try with_reducible rfl); done)); (try simp only [Act.put, List.setIfInBounds_toArray, List.set_cons_zero, List.set_cons_succ])
  refine PlanB.take (v := ?_) rfl rfl ?_ ?_; rotate_left; (focus (intro W hW; have k0 := (HQ.out W hW).cell 0 _ rfl; have k1 := (HQ.out W hW).cell 1 _ rfl; go_simp; (try with_reducible rfl); done)); (try simp only [Act.put, List.setIfInBounds_toArray, List.set_cons_zero, List.set_cons_succ])
  refine PlanB.take (v := ?_) rfl rfl ?_ ?_; rotate_left; (focus (intro W hW; have k0 := (HQ.out W hW).cell 0 _ rfl; have k1 := (HQ.out W hW).cell 1 _ rfl; go_simp; (try with_reducible rfl); done)); (try simp only [Act.put, List.setIfInBounds_toArray, List.set_cons_zero, List.set_cons_succ])
  simp only [PlanB]
  clear HQ
  go_wp2_with fail
  go_ret2
  exact ⟨rfl, hb1⟩
theorem rfnone_begin (e v : Int) (w : World) : Calls Tryz.prog 8 #[.pointer none, .int .i64 e, .int .i64 v] w fun o w' => o = .returned (.int .i64 1) ∧ Below w.heap.size w w' := by
  go_enter Tryz.func8, Tryz.ntmps8
  go_wp2_with fail
  go_ret
  exact ⟨rfl, Below.refl _ _⟩
theorem rfnone_judge (e p v : Int) (vv : Value) (w : World) : Calls Tryz.prog 10 #[.pointer none, .int .i64 e, .int .i64 p, .int .i64 v, vv] w fun o w' => ∃ u, o = .returned (.tuple #[u, .int .i64 1]) ∧ Below w.heap.size w w' := by
  go_enter Tryz.func10, Tryz.ntmps10
  go_wp2_with fail
  go_ret2
  exact ⟨_, rfl, Below.refl _ _⟩
theorem rfnone_ends (w : World) : Calls Tryz.prog 12 #[.pointer none] w fun o w' => o = .returned (.tuple #[.int .i64 0, .int .i64 0]) ∧ Below w.heap.size w w' := by
  go_enter Tryz.func12, Tryz.ntmps12
  go_wp2_with fail
  go_ret2
  exact ⟨rfl, Below.refl _ _⟩
/-- what a judge leaves -/
def RfPost (w : World) (base q : Nat) (G : Nat → Prop) (n : Nat) (J : List Int × Int × Rf) (o : Ending) (w' : World) : Prop :=
  ∃ A cap, o = .returned (.tuple #[.slice A J.1.length cap, .int .i64 J.2.1]) ∧
    ∃ G', RfAt w' base q G' (n + 4) J.2.2 ∧ (∀ i, G' i → G i ∨ w.heap.size ≤ i) ∧ Mv G w w' ∧ RdG encI 1 w' w'.heap.size (fun i => G' i ∨ Else w G i) (.slice A J.1.length cap) J.1
theorem jnext_bad' {m : Mk} {v : Int} {ts : List Txn} (h : jerr m v ts ≠ 0) : jnext m v ts = m := by
  unfold jnext
  rw [if_neg h]
set_option maxHeartbeats 8000000 in
set_option maxRecDepth 100000 in
theorem rfjudge_post (base q n : Nat) (G : Nat → Prop) (r : Rf) (e p v : Int) (_he : I64 e) (_hp : I64 p) (hv : I64 v) (ts : List TxV) (vv : Value) (w : World) (h : RfAt w base q G n r) (hr : RdTx w w.heap.size G vv ts) (hf : ∀ x ∈ ts, fitT x.t) (hi : ∀ x ∈ ts, I64 x.t.read) (hn : n ≤ 60) :
    Calls Tryz.prog 10 #[.pointer (some ⟨q, 0, none⟩), .int .i64 e, .int .i64 p, .int .i64 v, vv] w (RfPost w base q G n (r.judge e p v (ts.map (·.t)))) := by
  obtain ⟨mp, tv, Gm, hW, hT, hn0, hm0, hsub, hmq⟩ := h.blk
  obtain ⟨TA, tc, htv, -, -⟩ := hT.atI
  subst htv
  obtain ⟨VA, vc, rfl, _, _⟩ := hr.at
  have c0 := hW.cell 0 _ rfl
  have c1 := hW.cell 1 _ rfl
  have c2 := hW.cell 2 _ rfl
  have c3 := hW.cell 3 _ rfl
  have c4 := hW.cell 4 _ rfl
  have HW := Lib.hid hW
  have H := Lib.hid h
  have HT := Lib.hid hT
  have HN0 := Lib.hid hn0
  have HM0 := Lib.hid hm0
  have HSUB := Lib.hid hsub
  have HMQ := Lib.hid hmq
  have HTX := Lib.hid hr
  have HF := Lib.hid hf
  have HI := Lib.hid hi
  have HV := Lib.hid hv
  have HN := Lib.hid hn
  have HSTAY := Lib.hid (fun (c : Int) => show RfPost w base q G n ([], c, r) (.returned (.tuple #[.slice none 0 0, .int .i64 c])) w from ⟨none, 0, rfl, G, h.wide (by omega), fun _ h => .inl h, Mv.refl _ _, RdG.none_ _ _ _ _ _⟩)
  obtain ⟨J, hJ⟩ : ∃ J, J = r.judge e p v (ts.map (·.t)) := ⟨_, rfl⟩
  rw [← hJ]
  have HJ := Lib.hid hJ
  clear h hr hf hi hv hn hW hT hn0 hm0 hsub hmq hJ
  go_enter Tryz.func10, Tryz.ntmps10
  by_cases he : e = r.epoch
  case neg =>
    have hne : (e == r.epoch) = false := by simpa using he
    have hJe := HJ.out.trans (Rf.judge_none he)
    subst hJe
    go_wp2_with fail
    go_ret2
    exact HSTAY.out 4
  case pos =>
  subst he
  by_cases hz : r.epoch = 0
  case pos =>
    have hzb : (r.epoch == 0) = true := by simpa using hz
    have HZ := Lib.hid hz
    clear hz
    have hJe := HJ.out.trans (Rf.judge_zero HZ.out)
    subst hJe
    go_wp2_with fail
    go_ret2
    exact HSTAY.out 4
  case neg =>
  have hzb : (r.epoch == 0) = false := by simpa using hz
  have HZ := Lib.hid hz
  clear hz
  by_cases hv1 : v = r.version
  case pos =>
    subst hv1
    cases hjd : r.judged
    case true =>
      rw [hjd] at c2
      have hJe := HJ.out.trans (Rf.judge_again rfl HZ.out rfl hjd)
      subst hJe
      have HC := Lib.hid (cloneI_any r.told _ w HT.out.rd (by have := H.out.short; omega))
      go_wp2_with fail
      refine HC.out.mono ?_
      rintro o w1 ⟨A1, cc1, rfl, ho1, hb1⟩
      have hfin : RfPost w base q G n (r.told, 0, r) (.returned (.tuple #[.slice A1 r.told.length cc1, .int .i64 0])) w1 := ⟨A1, cc1, rfl, G, (H.out.fresh hb1).wide (by omega), fun _ h => .inl h, Mv.of_new hb1 _, RdG.own encI_len ho1 (fun b hb _ _ hd => by
        rcases hd with hd | ⟨_, hd⟩
        · have := (H.out.low.2 b hd).2; omega
        · omega)⟩
      have HFIN := Lib.hid hfin
      clear hfin ho1 hb1
      go_wp2_with fail
      go_ret2
      exact HFIN.out
    case false =>
      rw [hjd] at c2
      have hltb : decide (r.version < r.version) = false := decide_eq_false (by omega)
      have hvv : (r.version == r.version) = true := by simp
      have hJe := HJ.out.trans (Rf.judge_stop rfl HZ.out hjd)
      subst hJe
      by_cases hp1 : p = r.version
      · subst hp1
        go_wp2_with fail
        go_ret2
        exact HSTAY.out 9
      · have hpb : (p == r.version) = false := by simpa using hp1
        go_wp2_with fail
        go_ret2
        exact HSTAY.out 9
  case neg =>
  have hvb : (v == r.version) = false := by simpa using hv1
  by_cases hlt : v < r.version
  case pos =>
    have hltb : decide (v < r.version) = true := decide_eq_true hlt
    have hJe := HJ.out.trans (Rf.judge_old rfl HZ.out hlt)
    subst hJe
    go_wp2_with fail
    go_ret2
    exact HSTAY.out 7
  case neg =>
  have hltb : decide (v < r.version) = false := decide_eq_false hlt
  have hgt : r.version < v := by omega
  by_cases hp1 : p = r.version
  case neg =>
    have hpb : (p == r.version) = false := by simpa using hp1
    have hJe := HJ.out.trans (Rf.judge_order rfl HZ.out hgt hp1)
    subst hJe
    go_wp2_with fail
    go_ret2
    exact HSTAY.out 9
  case pos =>
  subst hp1
  have HGT := Lib.hid hgt
  rcases mp with _ | k
  case none => exact absurd (HN0.out rfl) HZ.out
  obtain ⟨-, b0, n0, hb0, hn0, hk⟩ := HM0.out k rfl
  have HK := Lib.hid hk
  have HB0 := Lib.hid hb0
  have HN1 := Lib.hid hn0
  have c4' : w.cell? ⟨q, 4, none⟩ = some (.pointer (some ⟨k, 0, none⟩)) := c4
  clear c4
  have HC := Lib.hid (mkjudge_any b0 k n0 Gm r.mks v HV.out ts _ w hk (HTX.out.mono (Nat.le_refl _) (fun i _ hi => HSUB.out i hi)) HF.out HI.out (by have := HN.out; omega))
  obtain ⟨E, hE⟩ : ∃ E, E = jerr r.mks v (ts.map (·.t)) := ⟨_, rfl⟩
  obtain ⟨O, hO⟩ : ∃ O, O = jout r.mks v (ts.map (·.t)) := ⟨_, rfl⟩
  obtain ⟨N, hN⟩ : ∃ N, N = jnext r.mks v (ts.map (·.t)) := ⟨_, rfl⟩
  have hol := jout_len r.mks v (ts.map (·.t))
  rw [← hO] at hol
  rw [← hE, ← hO, ← hN] at HC
  have HEE := Lib.hid hE
  have HOO := Lib.hid hO
  have HNN := Lib.hid hN
  have HOL := Lib.hid hol
  clear hE hO hN hk hb0 hn0 hgt hol
  go_wp2_with fail
  refine HC.out.mono ?_
  rintro o w1 ⟨A1, cc1, rfl, G1, hk1, hG1, hm1, hr1⟩
  have hW1 := hm1.whole HW.out HMQ.out
  have HK1 := Lib.hid hk1
  have HG1 := Lib.hid hG1
  have HM1 := Lib.hid hm1
  have HR1 := Lib.hid hr1
  have HW1 := Lib.hid hW1
  have HG1Q := Lib.hid (show ¬ G1 q from fun hd => by
    rcases hG1 q hd with k1 | k1
    · exact HMQ.out k1
    · have := HW.out.size; omega)
  clear hk1 hG1 hm1 hr1 HC c0 c1 c2 c3 c4'
  by_cases hE0 : E = 0
  case neg =>
    have hEb : (E == 0) = false := by simpa using hE0
    have hJe := HJ.out.trans (Rf.judge_bad rfl HZ.out HGT.out rfl (by rw [← HEE.out]; exact hE0))
    have hNm : N = r.mks := by rw [HNN.out]; exact jnext_bad' (by rw [← HEE.out]; exact hE0)
    rw [← HEE.out] at hJe
    subst hJe
    subst hNm
    have hfin : RfPost w base q G n ([], E, r) (.returned (.tuple #[.slice none 0 0, .int .i64 E])) w1 := ⟨none, 0, rfl, fun i => G i ∨ G1 i, ⟨⟨some k, _, G1, HW1.out, (HT.out.mv HM1.out (Nat.le_refl _) (fun b _ hd => .inr (.inl hd))).mono HM1.out.size (fun b hb hd => by
        rcases hd with hd | hd | hd
        · exact .inl hd
        · rcases HG1.out b hd with k1 | k1
          · exact .inr (.inl k1)
          · omega
        · exact .inr (.inr fun hg => hd (.inl hg))), (fun h => by cases h), fun k' hk' => (by injection hk' with hk'; subst hk'; exact ⟨HZ.out, b0, n0 + 4, HB0.out, by have := HN1.out; omega, HK1.out⟩), fun i hi => .inr hi, HG1Q.out⟩, .inl H.out.me, ⟨Nat.le_trans H.out.low.1 HM1.out.size, fun i hi => by
          have e1 := HM1.out.size
          rcases hi with hi | hi
          · have := H.out.low.2 i hi; exact ⟨this.1, by omega⟩
          · have := HK1.out.low.2 i hi; have e2 := HB0.out; exact ⟨by omega, this.2⟩⟩, H.out.short⟩, fun i hi => hi.elim .inl (fun hi => (HG1.out i hi).elim (fun h => .inl (HSUB.out i h)) .inr), HM1.out.mono (fun i _ hi => HSUB.out i hi), RdG.none_ _ _ _ _ _⟩
    have HFIN := Lib.hid hfin
    clear hfin
    go_wp2_with fail
    go_ret2
    exact HFIN.out
  case pos =>
    have HE := Lib.hid (HEE.out.symm.trans hE0)
    subst hE0
    obtain ⟨w2, hw2⟩ : ∃ W, W = ((w1.setCell ⟨q, 1, none⟩ (.int .i64 v)).setCell ⟨q, 2, none⟩ (.bool true)).setCell ⟨q, 3, none⟩ (.slice A1 O.length cc1) := ⟨_, rfl⟩
    have hm2 : Mv (fun i => i = q) w1 w2 := by rw [hw2]; exact (((Mv.refl (fun i => i = q) w1).setCell (p := ⟨q, 1, none⟩) (fun _ => rfl) _).setCell (p := ⟨q, 2, none⟩) (fun _ => rfl) _).setCell (p := ⟨q, 3, none⟩) (fun _ => rfl) _
    have hW2 : Whole w2 q 56 [.int .i64 r.epoch, .int .i64 v, .bool true, .slice A1 O.length cc1, .pointer (some ⟨k, 0, none⟩)] := by rw [hw2]; exact ((HW1.out.put 1 _).put 2 _).put 3 _
    have hk2 := HK1.out.mv hm2 (fun i hi e => HG1Q.out (e ▸ hi))
    have hwrap : IntKind.i64.wrap (v - 100) = v - 100 := by
      have e1 := HK.out.ok.low
      have e2 := HE.out
      have e3 := HV.out.2
      unfold jerr at e2
      rw [IntKind.wrap_i64]
      split at e2
      · omega
      · omega
    have hv100 : I64 (v - 100) := by
      have e1 := HK.out.ok.low
      have e2 := HE.out
      have e3 := HV.out.2
      unfold jerr at e2
      unfold I64
      split at e2
      · omega
      · omega
    have HC2 := Lib.hid (mkforget_any b0 k (n0 + 4) G1 N (v - 100) hv100 w2 hk2)
    have HW2 := Lib.hid hW2
    have HM2 := Lib.hid hm2
    have b0c := HW1.out.cell 0 _ rfl
    have b1c := HW1.out.cell 1 _ rfl
    have b2c := HW1.out.cell 2 _ rfl
    have b3c := HW1.out.cell 3 _ rfl
    have b4c : w1.cell? ⟨q, 4, none⟩ = some (.pointer (some ⟨k, 0, none⟩)) := HW1.out.cell 4 _ rfl
    have f1 := HW1.out.frozen 1
    have f2 := HW1.out.frozen 2
    have f3 := HW1.out.frozen 3
    clear hm2 hW2 hk2 hv100 hW1
    go_wp2_with fail
    rw [← hw2]
    refine HC2.out.mono ?_
    rintro o w3 ⟨rfl, G3, hk3, hG3, hm3⟩
    clear hw2 b0c b1c b2c b3c b4c f1 f2 f3 HC2
    have hs1 := HM1.out.size
    have hs2 := HM2.out.size
    have hs3 := hm3.size
    have hG3' : ∀ i, G3 i → G i ∨ (w.heap.size ≤ i ∧ i < w3.heap.size) := fun i hi => by
      have e1 := (hk3.low.2 i hi).2
      rcases hG3 i hi with k1 | k1
      · rcases HG1.out i k1 with k2 | k2
        · exact .inl (HSUB.out i k2)
        · exact .inr ⟨k2, e1⟩
      · exact .inr ⟨by omega, e1⟩
    have hq3 : ¬ G3 q := fun hd => by
      have e1 := HW.out.size
      rcases hG3 q hd with k1 | k1
      · exact HG1Q.out k1
      · omega
    have hW3 := hm3.whole HW2.out HG1Q.out
    have hr1' : RdG encI 1 w1 w1.heap.size (fun i => i = q ∨ G1 i ∨ ¬ (G i ∨ (w.heap.size ≤ i ∧ i < w3.heap.size))) (.slice A1 O.length cc1) O := HR1.out.mono (Nat.le_refl _) (fun b hb hd => by
      rcases hd with hd | hd | hd
      · exact .inr ⟨by rw [hd]; exact HMQ.out, by rw [hd]; exact HW.out.size⟩
      · exact .inl hd
      · refine .inr ⟨fun hg => hd (.inl (HSUB.out b hg)), ?_⟩
        by_cases hb2 : b < w.heap.size
        · exact hb2
        · exact absurd (.inr ⟨by omega, by omega⟩) hd)
    have hT3 : RdG encI 1 w3 w3.heap.size (fun i => i = q ∨ G3 i ∨ ¬ (G i ∨ (w.heap.size ≤ i ∧ i < w3.heap.size))) (.slice A1 O.length cc1) O :=
      (((hr1'.mv HM2.out (Nat.le_refl _) (fun b _ hd => .inl hd)).mv hm3 hs2 (fun b _ hd => .inr (.inl hd))).mono (by omega) (fun b hb hd => by
        rcases hd with hd | hd | hd
        · exact .inl hd
        · rcases hG3 b hd with k1 | k1
          · exact .inr (.inl k1)
          · omega
        · exact .inr (.inr hd)))
    have hfin3 : RfAt w3 base q (fun i => G i ∨ (w.heap.size ≤ i ∧ i < w3.heap.size)) (n + 4) ⟨r.epoch, v, fnext N (v - 100), true, O⟩ :=
      ⟨⟨some k, _, G3, hW3, hT3, (fun h => by cases h), fun k' hk' => (by injection hk' with hk'; subst hk'; exact ⟨HZ.out, b0, n0 + 4, HB0.out, by have := HN1.out; omega, hk3⟩), hG3', hq3⟩, .inl H.out.me, ⟨by have := H.out.low.1; omega, fun i hi => by
        rcases hi with hi | hi
        · have := H.out.low.2 i hi; exact ⟨this.1, by omega⟩
        · have := H.out.low.1; exact ⟨by omega, hi.2⟩⟩, HOL.out⟩
    have hM3 : Mv G w w3 := ((HM1.out.mono (fun i _ hi => HSUB.out i hi)).trans HM2.out (fun i _ hi => by rw [hi]; exact H.out.me)).trans hm3 (fun i hi hd => by
      rcases HG1.out i hd with k1 | k1
      · exact HSUB.out i k1
      · omega)
    have HR3 := Lib.hid hfin3
    have HM3 := Lib.hid hM3
    have HS3 := Lib.hid (show w.heap.size ≤ w3.heap.size by omega)
    have HC4 := Lib.hid (cloneI_any O (.slice A1 O.length cc1) w3 hT3.rd (by have := HOL.out; omega))
    clear hk3 hG3 hm3 hs1 hs2 hs3 hG3' hq3 hW3 hr1' hT3 hfin3 hM3
    go_wp2_with fail
    refine HC4.out.mono ?_
    rintro o w4 ⟨A4, c4, rfl, ho4, hb4⟩
    have hJe := HJ.out.trans (Rf.judge_new rfl HZ.out HGT.out rfl HE.out)
    rw [← HOO.out, ← HNN.out] at hJe
    subst hJe
    have hfin : RfPost w base q G n (O, 0, ⟨r.epoch, v, fnext N (v - 100), true, O⟩) (.returned (.tuple #[.slice A4 O.length c4, .int .i64 0])) w4 := ⟨A4, c4, rfl, _, HR3.out.fresh hb4, fun i hi => hi.elim .inl (fun hi => .inr hi.1), HM3.out.trans (Mv.of_new hb4 _) (fun _ _ h => h), RdG.own encI_len ho4 (fun b hb _ _ hd => by
      have e1 := HS3.out
      have e2 := H.out.low
      rcases hd with (hd | hd) | ⟨_, hd⟩
      · have := (e2.2 b hd).2; omega
      · omega
      · omega)⟩
    have HFIN := Lib.hid hfin
    clear hfin ho4 hb4
    go_wp2_with fail
    go_ret2
    exact HFIN.out
theorem rfjudge_any (base q n : Nat) (G : Nat → Prop) (r : Rf) (e p v : Int) (he : I64 e) (hp : I64 p) (hv : I64 v) (ts : List TxV) (vv : Value) (w : World) (h : RfAt w base q G n r) (hr : RdTx w w.heap.size G vv ts) (hf : ∀ x ∈ ts, fitT x.t) (hi : ∀ x ∈ ts, I64 x.t.read) (hn : n ≤ 60) :
    Calls Tryz.prog 10 #[.pointer (some ⟨q, 0, none⟩), .int .i64 e, .int .i64 p, .int .i64 v, vv] w fun o w' => ∃ A cap, o = .returned (.tuple #[.slice A (r.judge e p v (ts.map (·.t))).1.length cap, .int .i64 (r.judge e p v (ts.map (·.t))).2.1]) ∧
      ∃ G', RfAt w' base q G' (n + 4) (r.judge e p v (ts.map (·.t))).2.2 ∧ (∀ i, G' i → G i ∨ w.heap.size ≤ i) ∧ Mv G w w' ∧ RdG encI 1 w' w'.heap.size (fun i => G' i ∨ Else w G i) (.slice A (r.judge e p v (ts.map (·.t))).1.length cap) (r.judge e p v (ts.map (·.t))).1 :=
  (rfjudge_post base q n G r e p v he hp hv ts vv w h hr hf hi hn).mono (fun _ _ h => h)
end Go.Proofs.YtgppgecglkellaaGreat
namespace Go.Proofs.YtgppgecglkellaaGreat
open Go.RowKit
attribute [local go_sem] less_eq same_eq le_eq ge_eq gt_eq

theorem RfAt.new {w w' : World} {base q n : Nat} {G : Nat → Prop} {r : Rf} (h : RfAt w base q G n r) (hb : Below w.heap.size w w') : RfAt w' base q G n r := h.mv (Mv.of_new hb (fun _ => False)) (fun _ _ h => h)
theorem RfAt.below {w w' : World} {base q n : Nat} {G : Nat → Prop} {r : Rf} (h : RfAt w base q G n r) (hm : Mv G w w') : Below base w w' := hm.below h.low.1 (fun i hi => (h.low.2 i hi).1)
/-- what a call answered is there behind a later call -/
theorem RdG.later {α : Type} {enc : α → List Value} {k : Nat} {w w' : World} {G G' E : Nat → Prop} {v : Value} {l : List α} (h : RdG enc k w w.heap.size (fun i => G i ∨ E i) v l) (hm : Mv G w w') (hG : ∀ i, G' i → G i ∨ w.heap.size ≤ i) : RdG enc k w' w'.heap.size G' v l :=
  (h.mv hm (Nat.le_refl _) (fun _ _ h => .inl h)).mono hm.size (fun b hb hg => by rcases hG b hg with h1 | h1; exact .inl h1; omega)
theorem RdI.one_at {w : World} {A : Option Addr} {c : Nat} {x : Int} (h : RdI w w.heap.size (.slice A 1 c) [x]) : ∃ b o, A = some ⟨b, o, none⟩ ∧ b < w.heap.size ∧ 1 ≤ c ∧ w.cell? ⟨b, o, none⟩ = some (.int .i64 x) := by
  obtain ⟨A', c', e, hc, hi⟩ := h.at
  injection e with e1 _ e3
  subst e1 e3
  obtain ⟨b, o, hA, hb, k⟩ := hi 0 (by simp)
  exact ⟨b, o, hA, hb, hc, by simpa using k⟩
def awT : Txn := ⟨0, [], [⟨1, ⟨#[97]⟩, ⟨#[]⟩⟩]⟩
theorem awT_sound : soundT awT := by decide
theorem aw1 : Rf.new.begin_ 3 5 = (0, ⟨3, 5, mnew 5, false, []⟩) := by rfl
theorem aw2 : ∃ m, (⟨3, 5, mnew 5, false, []⟩ : Rf).judge 3 5 9 [awT] = ([1], 0, ⟨3, 9, m, true, [1]⟩) := by
  have he : jerr (mnew 5) 9 [awT] = 0 := jerr_one (by decide) (by decide) awT_sound
  obtain ⟨h1, _⟩ := jone he
  rw [verd_blind (t := awT) rfl] at h1
  refine ⟨fnext (jnext (mnew 5) 9 [awT]) (9 - 100), ?_⟩
  rw [Rf.judge_new (r := ⟨3, 5, mnew 5, false, []⟩) rfl (by decide) (by decide) rfl he, h1]

set_option maxHeartbeats 8000000 in
set_option maxRecDepth 100000 in
theorem rfawake_any (w : World) : Calls Tryz.prog 7 #[] w fun e w' => e = .returned (.bool true) ∧ Below w.heap.size w w' := by
  have HN := Lib.hid (rfnew_any w)
  go_enter Tryz.func7, Tryz.ntmps7
  go_wp2_with fail
  refine HN.out.mono ?_
  rintro e w1 ⟨q, G, rfl, hr1, hb1⟩
  have hbg := rfbegin_any w.heap.size q 0 G Rf.new 3 5 (by unfold I64; omega) (by unfold I64; omega) w1 hr1
  rw [aw1] at hbg
  simp only at hbg
  have HBG := Lib.hid hbg
  have HR1 := Lib.hid hr1
  have HB1 := Lib.hid hb1
  clear hbg hr1 hb1 HN
  go_wp2_with fail
  refine HBG.out.mono ?_
  rintro e w2 ⟨rfl, G2, hr2, hG2, hm2⟩
  have hb2 := HB1.out.trans (HR1.out.below hm2)
  obtain ⟨wx, hwx⟩ : ∃ wx, wx = (w2.alloc (.cells #[.int .i64 1, .string ⟨#[97]⟩, .string ⟨#[]⟩] 58)).alloc (.cells #[.int .i64 0, .slice none 0 0, .slice (some ⟨w2.heap.size, 0, none⟩) 1 1] 47) := ⟨_, rfl⟩
  have hbx : Below w2.heap.size w2 wx := by rw [hwx]; exact ((Below.refl _ w2).alloc (Nat.le_refl _) _).alloc (by simp) _
  have hzx : wx.heap.size = w2.heap.size + 1 + 1 := by rw [hwx]; simp
  have hG : ∀ i, w2.heap.size ≤ i → ¬ G2 i := fun i hi hg => by have := (hr2.low.2 i hg).2; omega
  have hB1 : Whole wx w2.heap.size 58 (flatG encC awT.chgs) := by rw [hwx]; exact (Whole.fresh w2 _ [_, _, _]).alloc _
  have hB2 : Whole wx (w2.heap.size + 1) 47 [.int .i64 0, .slice none 0 0, .slice (some ⟨w2.heap.size, 0, none⟩) 1 1] := by
    rw [hwx]
    have := Whole.fresh (w2.alloc (.cells #[.int .i64 1, .string ⟨#[97]⟩, .string ⟨#[]⟩] 58)) 47 [.int .i64 0, .slice none 0 0, .slice (some ⟨w2.heap.size, 0, none⟩) 1 1]
    rw [World.size_alloc] at this
    exact this
  have hT : RdTx wx wx.heap.size G2 (.slice (some ⟨w2.heap.size + 1, 0, none⟩) 1 1) [⟨awT, .slice none 0 0, .slice (some ⟨w2.heap.size, 0, none⟩) 1 1⟩] :=
    RdTx.one hB2 ⟨RdG.none_ _ _ _ _ _, Whole.rdg encC_len hB1 (by decide) (by omega) (hG _ (by omega))⟩ (hG _ (by omega))
  obtain ⟨m, hm⟩ := aw2
  have hrx := hr2.new hbx
  have hj := rfjudge_any w.heap.size q 0 G2 _ 3 5 9 (by unfold I64; omega) (by unfold I64; omega) (by unfold I64; omega) _ _ wx hrx hT (fun x hx => by
    rw [List.mem_singleton.1 hx]
    refine ⟨by simp [awT], fun s hs => by simp [awT] at hs, by simp [awT], fun c hc => ?_⟩
    simp only [awT, List.mem_cons, List.not_mem_nil, or_false] at hc
    rw [hc]
    exact ⟨by decide, by decide⟩) (fun x hx => by rw [List.mem_singleton.1 hx]; unfold I64; simp [awT]) (by omega)
  rw [show ([⟨awT, .slice none 0 0, .slice (some ⟨w2.heap.size, 0, none⟩) 1 1⟩] : List TxV).map (·.t) = [awT] from rfl, hm] at hj
  simp only [List.length_cons, List.length_nil, Nat.zero_add] at hj
  have HJ := Lib.hid hj
  have HRX := Lib.hid hrx
  have HBX := Lib.hid (hb2.trans (hbx.mono hb2.size))
  clear hj hrx hT hB1 hB2 hbx hzx hG hr2 hG2 hm2 hb2 hm HBG HR1 HB1
  go_wp2_with fail
  rw [← hwx]
  clear hwx
  refine HJ.out.mono ?_
  rintro e w3 ⟨A, cap, rfl, G3, hr3, hG3, hm3, hl3⟩
  have hb3 := HBX.out.trans (HRX.out.below hm3)
  have hj := rfjudge_any w.heap.size q _ G3 _ 3 5 9 (by unfold I64; omega) (by unfold I64; omega) (by unfold I64; omega) [] (.slice none 0 0) w3 hr3 ⟨RdG.none_ _ _ _ _ _, by simp⟩ (by simp) (by simp) (by omega)
  rw [List.map_nil, Rf.judge_again (r := ⟨3, 9, m, true, [1]⟩) rfl (by simp) rfl rfl] at hj
  simp only [List.length_cons, List.length_nil, Nat.zero_add] at hj
  have HJ := Lib.hid hj
  have HR3 := Lib.hid hr3
  have HB3 := Lib.hid hb3
  have HL3 := Lib.hid hl3
  clear hj hr3 hG3 hm3 hb3 hl3 HRX HBX
  go_wp2_with fail
  refine HJ.out.mono ?_
  rintro e w4 ⟨A4, cap4, rfl, G4, hr4, hG4, hm4, hl4⟩
  have HB4 := Lib.hid (HB3.out.trans (HR3.out.below hm4))
  have HL4 := Lib.hid (HL3.out.later hm4 hG4)
  have HE := Lib.hid (rfends_any w.heap.size q _ G4 _ w4 hr4)
  clear hr4 hG4 hm4 hl4 HR3 HB3 HL3
  go_wp2_with fail
  refine HE.out.mono ?_
  rintro e w5 ⟨rfl, hb5⟩
  have hl5 := (HL4.out.mv (Mv.of_new hb5 (fun _ => False)) (Nat.le_refl _) (fun _ _ h => h.elim)).mono (G' := fun _ => False) hb5.size (fun _ _ h => h.elim)
  obtain ⟨b, o, rfl, hbb, hcap, k0⟩ := RdI.one_at hl5.rd
  have HB5 := Lib.hid (HB4.out.trans (hb5.mono HB4.out.size))
  clear hb5 hl5 hbb HE HL4
  go_wp2_with fail
  go_ret
  exact ⟨rfl, HB5.out⟩
end Go.Proofs.YtgppgecglkellaaGreat
