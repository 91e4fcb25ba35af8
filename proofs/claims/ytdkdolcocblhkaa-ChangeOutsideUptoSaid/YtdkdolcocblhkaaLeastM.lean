/- Lists of the fewest spans: their ends are ends of what they were made of; how many they are; one list within another. What keys have no value behind changes. -/
import Derived.Test.YtdkdolcocblhkaaRApply
namespace Go.Proofs.Ytdkdolcocblhkaa
open Go.RowKit

def EndsIn (F : K → Prop) (l : List (K × K)) : Prop := ∀ s ∈ l, F s.1 ∧ F s.2
theorem bgo_ends (hv gn : List (K × K)) (F : K → Prop) : ∀ (E : List K) (out : List (K × K)), EndsIn F out → (∀ x ∈ E, F x) → EndsIn F (bgo hv gn out E)
  | a :: b :: r, out, ho, hE => by
    rw [bgo]
    refine bgo_ends hv gn F (b :: r) _ ?_ (fun x hx => hE x (List.mem_cons_of_mem _ hx))
    have ha := hE a (by simp)
    have hb := hE b (by simp)
    have hadd : EndsIn F (out ++ [(a, b)]) := fun s hs => by
      rcases List.mem_append.1 hs with hs | hs
      · exact ho s hs
      · simp at hs; subst hs; exact ⟨ha, hb⟩
    unfold bstep
    split
    · exact ho
    · split
      · exact hadd
      · rename_i l hl
        have hlm := List.mem_of_getLast? hl
        split
        · intro s hs
          rcases List.mem_append.1 hs with hs | hs
          · exact ho s ((List.dropLast_sublist out).subset hs)
          · simp at hs; subst hs; exact ⟨(ho l hlm).1, hb⟩
        · exact hadd
  | [_], out, ho, _ => by rw [bgo]; exact ho
  | [], out, ho, _ => by rw [bgo]; exact ho
theorem fits_ends {hv gn R : List (K × K)} (h : Fits R (fun k => mem hv k ∧ ¬ mem gn k)) (F : K → Prop) (hF : ∀ s ∈ hv ++ gn, F s.1 ∧ F s.2) : EndsIn F R := by
  have hb := build_ok hv gn
  rw [Fits.eq h hb]
  refine bgo_ends hv gn F _ _ (by intro s hs; simp at hs) fun x hx => ?_
  rcases ((ends_ok (hv ++ gn) [] .nil).2 x).1 hx with h0 | ⟨s, hs, rfl | rfl⟩
  · simp at h0
  · exact (hF s hs).1
  · exact (hF s hs).2
theorem Fits.congr {R : List (K × K)} {P Q : K → Prop} (h : Fits R P) (hpq : ∀ k, P k ↔ Q k) : Fits R Q := ⟨h.1, fun k => (h.2 k).trans (hpq k)⟩

theorem many : ∀ (A E : List K), A.Pairwise (· < ·) → (∀ x ∈ A, x ∈ E) → A.length ≤ E.length
  | [], _, _, _ => Nat.zero_le _
  | a :: r, E, hp, hs => by
    have ha := hs a (by simp)
    obtain ⟨h1, h2⟩ := List.pairwise_cons.1 hp
    obtain ⟨p, q, rfl⟩ := List.append_of_mem ha
    have h := many r (p ++ q) h2 (fun x hx => by
      have hm := hs x (List.mem_cons_of_mem _ hx)
      have hlt := h1 x hx
      rcases List.mem_append.1 hm with hm | hm
      · exact List.mem_append.2 (.inl hm)
      · rcases List.mem_cons.1 hm with he | hm
        · subst he; exact absurd hlt (by grind)
        · exact List.mem_append.2 (.inr hm))
    simp only [List.length_append, List.length_cons] at h ⊢
    omega
def flatK (l : List (K × K)) : List K := l.flatMap fun s => [s.1, s.2]
theorem flatK_len (l : List (K × K)) : (flatK l).length = 2 * l.length := by
  induction l with
  | nil => rfl
  | cons s r ih => simp only [flatK, List.flatMap_cons, List.length_append, List.length_cons, List.length_nil] at ih ⊢; omega
theorem flatK_mem {l : List (K × K)} {x : K} : x ∈ flatK l ↔ ∃ s ∈ l, x = s.1 ∨ x = s.2 := by simp [flatK]
theorem normal_flat : ∀ l : List (K × K), Normal l → (flatK l).Pairwise (· < ·)
  | [], _ => .nil
  | s :: r, h => by
    have ih := normal_flat r h.2.2
    have hr : ∀ x ∈ flatK r, s.2 < x := fun x hx => by
      obtain ⟨t, ht, rfl | rfl⟩ := flatK_mem.1 hx
      · exact h.2.1 t ht
      · have h1 := h.2.1 t ht
        have h2 := h.2.2.ne t ht
        grind
    have h1 := h.1
    show (s.1 :: s.2 :: flatK r).Pairwise _
    refine List.pairwise_cons.2 ⟨fun x hx => ?_, List.pairwise_cons.2 ⟨hr, ih⟩⟩
    rcases List.mem_cons.1 hx with rfl | hx
    · exact h1
    · have := hr x hx
      grind
theorem fits_len {l : List (K × K)} (hn : Normal l) (E : List K) (h : EndsIn (· ∈ E) l) : 2 * l.length ≤ E.length := by
  rw [← flatK_len]
  exact many _ E (normal_flat l hn) fun x hx => by
    obtain ⟨s, hs, rfl | rfl⟩ := flatK_mem.1 hx
    · exact (h s hs).1
    · exact (h s hs).2

theorem apart : ∀ {G : List (K × K)}, Normal G → ∀ {t u : K × K}, t ∈ G → u ∈ G → t = u ∨ t.2 < u.1 ∨ u.2 < t.1
  | [], _, _, _, h, _ => by simp at h
  | s :: r, hG, t, u, ht, hu => by
    rcases List.mem_cons.1 ht with e1 | ht1 <;> rcases List.mem_cons.1 hu with e2 | hu1
    · exact .inl (e1.trans e2.symm)
    · rw [e1]; exact .inr (.inl (hG.2.1 u hu1))
    · rw [e2]; exact .inr (.inr (hG.2.1 t ht1))
    · exact apart hG.2.2 ht1 hu1
theorem within {G L : List (K × K)} (hG : Normal G) (hL : Normal L) (h : ∀ x, mem L x → mem G x) {s : K × K} (hs : s ∈ L) : ∃ t ∈ G, t.1 ≤ s.1 ∧ s.2 ≤ t.2 := by
  have hne := hL.ne s hs
  obtain ⟨t, ht, h1, h2⟩ := h s.1 ⟨s, hs, by grind, hne⟩
  refine ⟨t, ht, h1, ?_⟩
  rcases Classical.em (s.2 ≤ t.2) with h3 | h3
  · exact h3
  · exfalso
    obtain ⟨u, hu, k1, k2⟩ := h t.2 ⟨s, hs, by grind, by grind⟩
    rcases apart hG ht hu with rfl | h4 | h4 <;> grind
theorem inner_next {G : List (K × K)} {s t : K × K} {L R : List (K × K)} (hG : Normal (G ++ [s])) (hL : Fits L (fun x => mem G x ∧ ¬ has t x)) (hR : Fits R (fun x => has s x ∧ ¬ mem [t] x)) :
    Fits (L ++ R) (fun x => mem (G ++ [s]) x ∧ ¬ has t x) := by
  obtain ⟨g1, g2, g3⟩ := normal_append.1 hG
  refine ⟨normal_append.2 ⟨hL.1, hR.1, fun u hu v hv => ?_⟩, fun k => ?_⟩
  · obtain ⟨a, ha, _, h1⟩ := within g1 hL.1 (fun x hx => ((hL.2 x).1 hx).1) hu
    obtain ⟨b, hb, h2, _⟩ := within g2 hR.1 (fun x hx => ⟨s, by simp, ((hR.2 x).1 hx).1⟩) hv
    have hbs : b = s := by simpa using hb
    subst hbs
    have h3 := g3 a ha b (by simp)
    grind
  · show mem (L ++ R) k ↔ (mem (G ++ [s]) k ∧ ¬ has t k)
    rw [mem_append, mem_append, hL.2, hR.2]
    simp only [mem_cons, mem_nil, or_false]
    constructor
    · rintro (⟨h1, h2⟩ | ⟨h1, h2⟩)
      · exact ⟨.inl h1, h2⟩
      · exact ⟨.inr h1, h2⟩
    · rintro ⟨h1 | h1, h2⟩
      · exact .inl ⟨h1, h2⟩
      · exact .inr ⟨h1, h2⟩

/-- keys that have no value behind a change, whatever they had -/
def gstep (P : K → Prop) (c : Chg) : K → Prop := fun k => if c.kind = 1 then P k ∧ ¬ has (cspan c) k else P k ∨ has (cspan c) k
def goneP (cs : List Chg) : K → Prop := cs.foldl gstep (fun _ => False)
theorem goneP_snoc (cs : List Chg) (c : Chg) : goneP (cs ++ [c]) = gstep (goneP cs) c := by simp [goneP]
theorem applyP_snoc (l : List (K × K)) (cs : List Chg) (c : Chg) : applyP l (cs ++ [c]) = oneP (applyP l cs) c := by simp [applyP]
theorem applyP_len (l : List (K × K)) : ∀ cs : List Chg, (applyP l cs).length ≤ l.length + cs.length
  | [] => by simp [applyP]
  | c :: r => by
    have h1 := oneP_len l c
    have h2 := applyP_len (oneP l c) r
    simp only [applyP, List.foldl_cons, List.length_cons] at h2 ⊢
    omega
/-- the ends of the spans of changes -/
def cends (cs : List Chg) : List K := flatK (cs.map cspan)
theorem cends_len (cs : List Chg) : (cends cs).length = 2 * cs.length := by simp [cends, flatK_len]
theorem cends_snoc (cs : List Chg) (c : Chg) : cends (cs ++ [c]) = cends cs ++ [(cspan c).1, (cspan c).2] := by simp [cends, flatK]
theorem cends_size {cs : List Chg} (h : ∀ c ∈ cs, smallC c) : ∀ x ∈ cends cs, x.size ≤ 4611686018427387904 := by
  intro x hx
  obtain ⟨s, hs, h1⟩ := flatK_mem.1 hx
  obtain ⟨c, hc, rfl⟩ := List.mem_map.1 hs
  obtain ⟨a, b⟩ := h c hc
  unfold cspan at h1
  split at h1
  · rcases h1 with rfl | rfl <;> simp only <;> omega
  · rcases h1 with rfl | rfl
    · simp only; omega
    · simp only [ByteArray.size_append, show (ByteArray.mk #[0]).size = 1 from rfl]; omega
theorem gone_add {cs : List Chg} {c : Chg} {G R : List (K × K)} (hk : c.kind ≠ 1) (hG : Fits G (goneP cs)) (hE : EndsIn (· ∈ cends cs) G) (hR : Fits R (fun k => mem (G ++ [cspan c]) k)) : Fits R (goneP (cs ++ [c])) ∧ EndsIn (· ∈ cends (cs ++ [c])) R := by
  refine ⟨hR.congr fun k => ?_, fits_ends (hv := G ++ [cspan c]) (gn := []) (hR.congr fun k => by simp [mem_nil]) _ fun s hs => ?_⟩
  · rw [goneP_snoc, gstep, if_neg hk, mem_append, hG.2]
    simp [mem_cons, mem_nil]
  · rw [cends_snoc]
    simp only [List.append_nil, List.mem_append, List.mem_cons, List.not_mem_nil, or_false] at hs
    rcases hs with hs | rfl
    · exact ⟨List.mem_append.2 (.inl (hE s hs).1), List.mem_append.2 (.inl (hE s hs).2)⟩
    · exact ⟨by simp, by simp⟩
theorem gone_put {cs : List Chg} {c : Chg} {G L : List (K × K)} (hk : c.kind = 1) (hG : Fits G (goneP cs)) (hL : Fits L (fun x => mem G x ∧ ¬ has (cspan c) x)) : Fits L (goneP (cs ++ [c])) :=
  hL.congr fun k => by rw [goneP_snoc, gstep, if_pos hk, hG.2]
theorem inner_ends {cs : List Chg} {c : Chg} {s : K × K} {R : List (K × K)} (hs : s.1 ∈ cends cs ∧ s.2 ∈ cends cs) (hR : Fits R (fun x => has s x ∧ ¬ mem [cspan c] x)) : EndsIn (· ∈ cends (cs ++ [c])) R ∧ R.length ≤ 2 := by
  have hR2 : Fits R (fun x => mem [s] x ∧ ¬ mem [cspan c] x) := hR.congr fun k => by simp [mem_cons, mem_nil]
  refine ⟨fits_ends hR2 _ fun t ht => ?_, ?_⟩
  · rw [cends_snoc]
    simp only [List.cons_append, List.nil_append, List.mem_cons, List.not_mem_nil, or_false] at ht
    rcases ht with rfl | rfl
    · exact ⟨List.mem_append.2 (.inl hs.1), List.mem_append.2 (.inl hs.2)⟩
    · exact ⟨by simp, by simp⟩
  · have h := fits_len hR.1 [s.1, s.2, (cspan c).1, (cspan c).2] (fits_ends hR2 _ fun t ht => by
      simp only [List.cons_append, List.nil_append, List.mem_cons, List.not_mem_nil, or_false] at ht
      rcases ht with rfl | rfl <;> simp)
    simp only [List.length_cons, List.length_nil] at h
    omega
theorem sep {u v : Value} {B : Nat} (hv : ∀ i, v.ownBlock = some i → B ≤ i) (hu : ∀ i, u.ownBlock = some i → i < B) : v.ownBlock = none ∨ v.ownBlock ≠ u.ownBlock := by
  cases h : v.ownBlock with
  | none => exact .inl rfl
  | some i => exact .inr fun e => by have h1 := hv i h; have h2 := hu i e.symm; omega
/-- the changes of spans and pairs -/
def toGone (s : K × K) : Chg := if s.2 = s.1 ++ ⟨#[0]⟩ ∧ s.1.size ≤ 16 then ⟨2, s.1, ⟨#[]⟩⟩ else ⟨3, s.1, s.2⟩
def toPut (p : K × K) : Chg := ⟨1, p.1, p.2⟩
end Go.Proofs.Ytdkdolcocblhkaa
