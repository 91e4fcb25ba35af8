/- Arguments of the change laws by value, and what the second form's bound says of lists. -/
import Derived.Test.YtdkdolcocblhkaaOpenP
import Derived.Test.YtdkdolcocblhkaaRAll
import Derived.Deep.CondSized
import Derived.JoinedCond
import Derived.Carry
namespace Go.Proofs.Ytdkdolcocblhkaa
open Go.ChangeShapes Go.WideShapes Go.ChangeAt Go.RowKit Go.Joins

theorem weights_all {H : Type} {P : Program} {ts : List TypeId} {ds : List (DataW H)} (h : (DataW.weightsEach P ts ds).all (· ≤ reachBytes) = true) {j : Nat} {t : TypeId} {d : DataW H} (ht : ts[j]? = some t) (hd : ds[j]? = some d) : ∀ n ∈ d.weights P t, n ≤ reachBytes := fun n hn => by
  have := List.all_eq_true.1 h _ (DataW.weights_mem_each ht hd n hn)
  simpa using this
set_option maxRecDepth 100000 in
theorem open_chg {H : Type} {enc : TypeId × Value → H} {W : World} {base : Nat} {v : Value} {d : DataW H} {p : List MemPlace} (hv : Value.okWide Try.prog W .any base 23 v) (h : DataW.Trod enc Try.prog W 0 (fun _ => true) true 23 v d p) (hw : ∀ n ∈ d.weights Try.prog 23, n ≤ reachBytes) :
    ∃ c : Chg, v = cval c ∧ c.key.size ≤ 140737488351232 ∧ c.val.size ≤ 140737488351232 := by
  obtain ⟨a0, b0, c0, y0, z0, x0, m0, rfl, rfl, rfl, hy, hz, hx⟩ := open_agg3 Try.underlying23 (by kernel_rfl) (by kernel_rfl) hv h
  obtain ⟨k, ek, xk, _⟩ := DataW.trod_int Try.underlying3 hy
  obtain ⟨a, ea, xa, _⟩ := DataW.trod_string Try.underlying9 hz
  obtain ⟨b, eb, xb, _⟩ := DataW.trod_string Try.underlying9 hx
  simp at ek ea eb
  subst ek ea eb
  rw [xk, xa, xb] at hw
  have h1 := hw a.data.toList.length (by simp [DataW.weights, DataW.weightsEach, Try.underlying23])
  have h2 := hw b.data.toList.length (by simp [DataW.weights, DataW.weightsEach, Try.underlying23])
  rw [show reachBytes = 140737488351232 from rfl] at h1 h2
  exact ⟨⟨k, a, b⟩, rfl, by simpa using h1, by simpa using h2⟩
set_option maxRecDepth 100000 in
theorem open_span {H : Type} {enc : TypeId × Value → H} {W : World} {base : Nat} {v : Value} {d : DataW H} {p : List MemPlace} (hv : Value.okWide Try.prog W .any base 48 v) (h : DataW.Trod enc Try.prog W 0 (fun _ => true) true 48 v d p) (hw : ∀ n ∈ d.weights Try.prog 48, n ≤ reachBytes) :
    ∃ s : K × K, v = spv s ∧ s.1.size ≤ 140737488351232 ∧ s.2.size ≤ 140737488351232 := by
  obtain ⟨a0, b0, y0, z0, m0, rfl, rfl, rfl, hy, hz⟩ := open_agg2 Try.underlying48 (by kernel_rfl) (by kernel_rfl) hv h
  obtain ⟨a, ea, xa, _⟩ := DataW.trod_string Try.underlying9 hy
  obtain ⟨b, eb, xb, _⟩ := DataW.trod_string Try.underlying9 hz
  simp at ea eb
  subst ea eb
  rw [xa, xb] at hw
  have h1 := hw a.data.toList.length (by simp [DataW.weights, DataW.weightsEach, Try.underlying48])
  have h2 := hw b.data.toList.length (by simp [DataW.weights, DataW.weightsEach, Try.underlying48])
  rw [show reachBytes = 140737488351232 from rfl] at h1 h2
  exact ⟨(a, b), rfl, by simpa using h1, by simpa using h2⟩
theorem small_of {l : List Chg} (h : ∀ s ∈ l, s.key.size ≤ 140737488351232 ∧ s.val.size ≤ 140737488351232) : ∀ c ∈ l, smallC c := fun c hc => by
  have := h c hc
  exact ⟨by omega, by omega⟩
theorem smallP_of {l : List (K × K)} (h : ∀ s ∈ l, s.1.size ≤ 140737488351232 ∧ s.2.size ≤ 140737488351232) : ∀ p ∈ l, p.1.size < 4611686018427387904 ∧ p.2.size < 4611686018427387904 := fun c hc => by
  have := h c hc
  exact ⟨by omega, by omega⟩
theorem bulk_one {H : Type} (d : DataW H) : 1 ≤ Rows.uptoBulk d := by
  cases d with
  | lit l => cases l <;> simp [Rows.uptoBulk]
  | nil => simp [Rows.uptoBulk]
  | ptr d => simp [Rows.uptoBulk]
  | slice elems spare => simp [Rows.uptoBulk]
  | agg parts => simp [Rows.uptoBulk]
  | iface t d => simp [Rows.uptoBulk]
  | map entries => simp [Rows.uptoBulk]
  | held h => simp [Rows.uptoBulk]
theorem bulk_length {H : Type} (l : List (DataW H)) : l.length ≤ Rows.uptoBulkAll l := by
  induction l with
  | nil => simp [Rows.uptoBulkAll]
  | cons x r ih => have := bulk_one x; simp only [Rows.uptoBulkAll, List.length_cons]; omega
theorem SizedL.bulk {H α : Type} {Ok : α → DataW H → Prop} {d : DataW H} {l : List α} (h : SizedL Ok d l) : l.length ≤ Rows.uptoBulk d := by
  rcases h with ⟨_, rfl⟩ | ⟨el, sp, rfl, he, _⟩
  · simp
  · have := bulk_length el
    simp only [Rows.uptoBulk]
    omega
section
variable {H : Type} {enc : TypeId × Value → H} {P : Program} {w : World} {base : Nat} {spare : Nat → Bool} {held : Bool}
theorem trodAll_five {t0 t1 t2 t3 t4 : TypeId} {args : Array Value} {ds : List (DataW H)} {ps : List MemPlace} (h : DataW.TrodAll enc P w base spare held [t0, t1, t2, t3, t4] args.toList ds ps) :
    ∃ v0 v1 v2 v3 v4 d0 d1 d2 d3 d4 p0 p1 p2 p3 p4, args = #[v0, v1, v2, v3, v4] ∧ ds = [d0, d1, d2, d3, d4] ∧ ps = p0 ++ (p1 ++ (p2 ++ (p3 ++ p4))) ∧ DataW.Trod enc P w base spare held t0 v0 d0 p0 ∧ DataW.Trod enc P w base spare held t1 v1 d1 p1 ∧ DataW.Trod enc P w base spare held t2 v2 d2 p2 ∧ DataW.Trod enc P w base spare held t3 v3 d3 p3 ∧ DataW.Trod enc P w base spare held t4 v4 d4 p4 := by
  obtain ⟨v0, vs0, d0, ds0, p0, q0, hargs, rfl, rfl, h0, hr0⟩ := trodAll_cons h
  obtain ⟨v1, vs1, d1, ds1, p1, q1, rfl, rfl, rfl, h1, hr1⟩ := trodAll_cons hr0
  obtain ⟨v2, vs2, d2, ds2, p2, q2, rfl, rfl, rfl, h2, hr2⟩ := trodAll_cons hr1
  obtain ⟨v3, vs3, d3, ds3, p3, q3, rfl, rfl, rfl, h3, hr3⟩ := trodAll_cons hr2
  obtain ⟨v4, vs4, d4, ds4, p4, q4, rfl, rfl, rfl, h4, hr4⟩ := trodAll_cons hr3
  obtain ⟨rfl, rfl, rfl⟩ := trodAll_nil hr4
  exact ⟨v0, v1, v2, v3, v4, d0, d1, d2, d3, d4, p0, p1, p2, p3, p4, by cases args; simp_all, rfl, by simp, h0, h1, h2, h3, h4⟩
end
end Go.Proofs.Ytdkdolcocblhkaa
