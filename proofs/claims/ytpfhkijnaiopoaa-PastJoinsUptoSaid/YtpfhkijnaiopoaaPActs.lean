/- Acts of a Past as they come in; the program's Past beside the reference's. -/
import Derived.Test.YtpfhkijnaiopoaaPAwk
import Derived.Test.YtpfhkijnaiopoaaRSame
namespace Go.Proofs.Ytpfhkijnaiopoaa
open Go.RowKit

/-- one act, as it came in -/
structure PAct where
  what : Int
  ver : Int
  most : Int
  key : K
  span : K × K
  v : Value
  l : List Chg
def encPA (a : PAct) : List Value := [.int .i64 a.what, .int .i64 a.ver, .int .i64 a.most, .string a.key, .string a.span.1, .string a.span.2, a.v]
theorem RdPA.at {w : World} {B : Nat} {v : Value} {l : List PAct} (h : Rd encPA 7 w B v l) : ∃ A c, v = .slice A l.length c ∧ l.length ≤ c ∧ ∀ i (_ : i < l.length), ∃ b o, A = some ⟨b, o, none⟩ ∧ b < B ∧
    w.cell? ⟨b, o + i * 7, none⟩ = some (.int .i64 l[i].what) ∧ w.cell? ⟨b, o + i * 7 + 1, none⟩ = some (.int .i64 l[i].ver) ∧ w.cell? ⟨b, o + i * 7 + 2, none⟩ = some (.int .i64 l[i].most) ∧ w.cell? ⟨b, o + i * 7 + 3, none⟩ = some (.string l[i].key) ∧
    w.cell? ⟨b, o + i * 7 + 4, none⟩ = some (.string l[i].span.1) ∧ w.cell? ⟨b, o + i * 7 + 5, none⟩ = some (.string l[i].span.2) ∧ w.cell? ⟨b, o + i * 7 + 6, none⟩ = some l[i].v := by
  obtain ⟨A, c, hv, hc, hi⟩ := h
  refine ⟨A, c, hv, hc, fun i hs => ?_⟩
  obtain ⟨b, o, hA, hB, h1⟩ := hi i hs
  exact ⟨b, o, hA, hB, h1 0 _ rfl, h1 1 _ rfl, h1 2 _ rfl, h1 3 _ rfl, h1 4 _ rfl, h1 5 _ rfl, h1 6 _ rfl⟩
def smallS (k : K) : Prop := k.size < 4611686018427387904

/-- so many layers, each of so many pairs -/
def Fit (p : Pa) (n m : Nat) : Prop := p.l.length ≤ m ∧ ∀ x ∈ p.l, x.2.length ≤ n
theorem Fit.atL : ∀ {l : List (Int × Prs)} {n : Nat} (_ : ∀ x ∈ l, x.2.length ≤ n) (v : Int), (atL l v).length ≤ n := by
  intro l n h v
  have key : ∀ (l : List (Int × Prs)) (acc : Prs), acc.length ≤ n → (∀ x ∈ l, x.2.length ≤ n) → (l.foldl (fun acc x => if x.1 ≤ v then x.2 else acc) acc).length ≤ n := by
    intro l
    induction l with
    | nil => intro acc h _; exact h
    | cons x r ih =>
      intro acc ha hl
      rw [List.foldl_cons]
      refine ih _ ?_ (fun y hy => hl y (List.mem_cons_of_mem _ hy))
      split
      · exact hl x (by simp)
      · exact ha
  exact key l [] (by simp) h
theorem Fit.at_ {p : Pa} {n m : Nat} (h : Fit p n m) (v : Int) : (p.at_ v).length ≤ n := Fit.atL h.2 v
theorem Fit.add {p : Pa} {n m : Nat} (h : Fit p n m) (v : Int) (cs : List Chg) : Fit (p.add v cs).2 (n + cs.length) (m + 1) := by
  have h0 : Fit p (n + cs.length) (m + 1) := ⟨Nat.le_succ_of_le h.1, fun x hx => Nat.le_trans (h.2 x hx) (Nat.le_add_right _ _)⟩
  unfold Pa.add
  split
  · exact h0
  · split
    · exact h0
    · refine ⟨by simp only [List.length_append, List.length_cons, List.length_nil]; have := h.1; omega, fun x hx => ?_⟩
      rcases List.mem_append.1 hx with hx | hx
      · exact h0.2 x hx
      · rw [List.mem_singleton.1 hx]
        have := applyP_len (p.at_ p.last) cs
        have := h.at_ p.last
        simp only
        omega
theorem Fit.mono {p : Pa} {n m n' m' : Nat} (h : Fit p n m) (hn : n ≤ n') (hm : m ≤ m') : Fit p n' m' := ⟨Nat.le_trans h.1 hm, fun x hx => Nat.le_trans (h.2 x hx) hn⟩
theorem Fit.forget {p : Pa} {n m : Nat} (h : Fit p n m) (v : Int) : Fit (p.forget v).2 n m := by
  unfold Pa.forget
  split
  · exact h
  · split <;> exact h
theorem Fit.back {p : Pa} {n m : Nat} (h : Fit p n m) (v : Int) : Fit (p.back v).2 n m := by
  unfold Pa.back
  split
  · exact h
  · exact ⟨Nat.le_trans (List.length_filter_le _ _) h.1, fun x hx => h.2 x (List.mem_filter.1 hx).1⟩
theorem list_le {p : Pa} {n m : Nat} (h : Fit p n m) (s : K × K) (v most : Int) : (p.list s v most).1.length ≤ n := by
  unfold Pa.list
  split
  · simp
  · split
    · simp
    · have := List.length_filter_le (fun x : K × K => hasB s x.1) (p.at_ v)
      have := h.at_ v
      simp only [List.length_take]
      omega

theorem RpAt.step {w w' : World} {base r : Nat} {ov : Option Nat} {D E E' : Nat → Prop} {p : Pa} (h : RpAt w base r ov E p) (hm : Mv D w w') (h1 : ¬ D r) (h2 : ∀ g, ov = some g → ¬ D g) (h3 : ∀ i, i < w.heap.size → D i → E i) (h4 : ∀ i, E' i → E i ∨ w.heap.size ≤ i) : RpAt w' base r ov E' p := by
  obtain ⟨A, cap, rs, hb, ho, hv, hl, hp⟩ := h.blk
  exact ⟨⟨A, cap, rs, hm.whole hb h1, ho.mvG hm (fun g hg => h2 g (hv ▸ hg)), hv, hl, fun x hx => ((hp x hx).mv hm (Nat.le_refl _) fun b hb hd => .inl (h3 b hb hd)).mono hm.size fun b hb hg => by
    rcases hg with hg | hg
    · rcases h4 b hg with k | k
      · exact .inl k
      · omega
    · exact .inr hg⟩, ⟨h.low.1, Nat.le_trans h.low.2 hm.size⟩⟩
/-- the program's Past at its blocks G, the reference's at r and ov: apart -/
structure Mid (w : World) (base q r : Nat) (G : Nat → Prop) (ov : Option Nat) (n : Nat) (p p0 : Pa) : Prop where
  pa : PaAt w base q G n p
  ref : RpAt w base r ov G p0
  off : ¬ G r
  row : ∀ g, ov = some g → ¬ G g
section
variable {w w' : World} {base q r n n' g : Nat} {G G' : Nat → Prop} {ov ov' : Option Nat} {p p0 p1 : Pa}
theorem Mid.prog (h : Mid w base q r G ov n p0 p0) (hb : PaAt w' base q G' n' p1) (hn : ∀ i, G' i → G i ∨ w.heap.size ≤ i) (hm : Mv G w w') : Mid w' base q r G' ov n' p1 p0 :=
  ⟨hb, h.ref.step hm h.off h.row (fun _ _ h => h) hn, fun hg => by
    rcases hn r hg with k | k
    · exact h.off k
    · have := h.ref.size; omega, fun g hg he => by
    rcases hn g he with k | k
    · exact h.row g hg k
    · have := (h.ref.row hg).2; omega⟩
theorem Mid.went (h : Mid w base q r G ov n p1 p0) (hw : RpWent w w' base r ov G p1 ov') : Mid w' base q r G ov' n p1 p1 :=
  ⟨h.pa.mv hw.moved fun i hi hd => by
    rcases hd with rfl | hd
    · exact h.off hi
    · exact h.row i hd.symm hi, hw.now, h.off, fun g hg he => by
    rcases hw.new g hg with k | k
    · exact h.row g k he
    · have := (h.pa.low.2 g he).2; omega⟩
theorem Mid.same (h : Mid w base q r G ov n p p0) (hb : Below w.heap.size w w') : Mid w' base q r G ov n p p0 := ⟨h.pa.same hb, h.ref.new hb, h.off, h.row⟩
theorem Mid.drew (h : Mid w base q r G ov n p p0) : Mid w.drew base q r G ov n p p0 := h.same ((Below.refl _ w).drew)
theorem Mid.fresh (h : Mid w base q r G ov n p p0) (hg : w.heap.size ≤ g) : ¬ G g := fun hi => by have := (h.pa.low.2 g hi).2; omega
/-- what came in is none of the program's blocks -/
theorem Mid.came {α : Type} {enc : α → List Value} {k : Nat} {v : Value} {l : List α} {B : Nat} (h : Mid w base q r G ov n p p0) (hB : B ≤ base) (hr : Rd enc k w B v l) : RdG enc k w w.heap.size G v l :=
  (RdG.of (G := G) hr fun b hb hg => by have := (h.pa.low.2 b hg).1; omega).mono (Nat.le_trans hB h.pa.low.1) fun _ _ h => h
end
end Go.Proofs.Ytpfhkijnaiopoaa
