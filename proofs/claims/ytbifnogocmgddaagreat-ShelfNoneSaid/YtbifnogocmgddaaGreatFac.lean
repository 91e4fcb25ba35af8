/- What the reference's Span, All and Sound answer. What the reference's One answers. What the reference's Sound answers. A Past as a state: pure. Pairs that lie in no block of G (for a seat with past's texts and without its reference). Keys that rise; what a Past answers about one key. What the program keeps of a Past, against the Past as a state: pure. (For seats with bytes.) Blk has the most of it. Cells moved inside a block that is known whole: copy, append within the room, append of zeros that grows, clear; for elements that take k cells each. -/
import Derived.Test.YtbifnogocmgddaaGreatFab
import Derived.Laws.CopyOwn
import Derived.Lib.AppendZerosOnto
import Derived.Lib.Overlaps
namespace Go.Proofs.YtbifnogocmgddaaGreat
open Go.RowKit
attribute [local go_sem] less_eq same_eq le_eq ge_eq gt_eq

def smallC (c : Chg) : Prop := c.key.size < 4611686018427387904 ∧ c.val.size < 4611686018427387904
/-- the first error -/
def allAns : List Chg → Int
  | [] => 0
  | c :: r => if checkAns c = 0 then allAns r else checkAns c

set_option maxHeartbeats 1000000 in
set_option maxRecDepth 100000 in
theorem rall_any (l : List Chg) (hs : ∀ c ∈ l, smallC c) (v : Value) (w : World) (hv : RdC w w.heap.size v l) (hl : l.length < 4611686018427387904) :
    Calls Tryz.prog 9 #[v] w fun e w' => e = .returned (.int .i64 (allAns l)) ∧ Below w.heap.size w w' := by
  obtain ⟨A, c, rfl, hc, hi⟩ := hv.at
  obtain ⟨R, hR⟩ : ∃ R, R = allAns l := ⟨_, rfl⟩
  rw [← hR]
  have HR := Lib.hid hR; clear hR
  have HI := Lib.hid hi; clear hi
  have HS := Lib.hid hs; clear hs
  clear hv
  obtain ⟨g, hg⟩ : ∃ g, g = w.heap.size := ⟨_, rfl⟩
  have HG := Lib.hid hg; clear hg
  go_enter Tryz.func9, Tryz.ntmps9
  go_wp2_with fail
  go_loopw [3] (fun iv wr => ∃ i : Nat, i ≤ l.length ∧ iv = .int .i64 i ∧ Below g w wr ∧ R = allAns (l.drop i)) (fun iv _ => l.length - (intOf iv).toNat)
  case atStart => exact ⟨0, Nat.zero_le _, rfl, Below.refl _ _, HR.out⟩
  case round =>
    obtain ⟨i, hil, rfl, hbw, he⟩ := hrel
    have HBW := Lib.hid hbw; clear hbw
    have HE := Lib.hid he; clear he
    by_cases hlt : i < l.length
    · obtain ⟨b, o, rfl, hbB, k0, k1, k2⟩ := HI.out i hlt
      have hsm := HS.out l[i] (List.getElem_mem hlt)
      have hd := HE.out
      rw [List.drop_eq_getElem_cons hlt, allAns] at hd
      rw [← HBW.out.cell (p := ⟨b, o + i * 3, none⟩) (by rw [HG.out]; exact hbB)] at k0
      rw [← HBW.out.cell (p := ⟨b, o + i * 3 + 1, none⟩) (by rw [HG.out]; exact hbB)] at k1
      rw [← HBW.out.cell (p := ⟨b, o + i * 3 + 2, none⟩) (by rw [HG.out]; exact hbB)] at k2
      generalize l[i] = z at k0 k1 k2 hsm hd
      have hck := rcheck_any z wr (by have := hsm.1; omega) (by have := hsm.2; omega)
      unfold cval at hck
      generalize checkAns z = q at hck hd
      obtain ⟨kz, xz, yz⟩ := z
      simp only at k0 k1 k2 hck
      have HD := Lib.hid hd
      have HK := Lib.hid hck
      clear hd hck hsm
      go_wp2_with fail
      refine HK.out.mono ?_
      rintro e w2 ⟨rfl, hb2⟩
      have HW2 := Lib.hid (show Below g w w2 from HBW.out.trans (hb2.mono (by rw [HG.out]; exact HBW.out.size)))
      clear hb2 k0 k1 k2
      by_cases hq : q = 0
      · subst hq
        have hd := HD.out
        rw [if_pos rfl] at hd
        have HD2 := Lib.hid hd; clear hd
        go_wp2_with fail
        go_roundw
        case rel => exact ⟨i + 1, by omega, by go_num, HW2.out, HD2.out⟩
        case measure => simp [intOf]; omega
      · have hd := HD.out
        rw [if_neg hq] at hd
        have HD2 := Lib.hid hd; clear hd
        go_wp2_with fail
        go_ret
        exact ⟨by rw [HD2.out]; rfl, by have h := HW2.out; rwa [HG.out] at h⟩
    · have hd := HE.out
      rw [List.drop_eq_nil_of_le (by omega), allAns] at hd
      have HD := Lib.hid hd; clear hd
      go_wp2_with fail
      go_ret
      exact ⟨by rw [HD.out]; rfl, by have h := HBW.out; rwa [HG.out] at h⟩
end Go.Proofs.YtbifnogocmgddaaGreat
namespace Go.Proofs.YtbifnogocmgddaaGreat
open Go.RowKit
attribute [local go_sem] less_eq same_eq le_eq ge_eq gt_eq

theorem RdP.one (w : World) (s : K × K) : RdP (w.alloc (.cells #[.string s.1, .string s.2] 69)) (w.heap.size + 1) (.slice (some ⟨w.heap.size, 0, none⟩) 1 1) [s] := by
  refine ⟨_, 1, rfl, Nat.le_refl _, fun i hi => ⟨w.heap.size, 0, rfl, Nat.lt_succ_self _, fun j u hu => ?_⟩⟩
  obtain rfl : i = 0 := by simp at hi; omega
  match j, hu with
  | 0, hu =>
    simp only [cellsS, List.getElem_cons_zero, List.getElem?_cons_zero, Option.some.injEq] at hu
    subst hu
    exact World.cell?_alloc_at _ _ _ _ rfl
  | 1, hu =>
    simp only [cellsS, List.getElem_cons_zero, List.getElem?_cons_succ, List.getElem?_cons_zero, Option.some.injEq] at hu
    subst hu
    exact World.cell?_alloc_at _ _ _ _ rfl
  | j + 2, hu => simp [cellsS] at hu
theorem wpList_addP {ops : Array Oper} {rest : List Oper} {o : Oper} {a : Act} {Q : Exit → Act → World → Prop} {w : World} (hgd : Region.wanted o (yielded ops a.tmps) = true) (s x : Operand)
    (ho : o.op = .call { callee := .builtin .append, args := #[s, x], argTypes := #[37, 37] })
    (base : Nat) (v : Value) (l : List (K × K)) (hs : a.eval s = v) (hown : OwnP w base v l) (B : Nat) (v2 : Value) (p : List (K × K)) (hx : a.eval x = v2) (hp : RdP w B v2 p)
    (hlen : l.length + p.length ≤ 7036874417000) (hbase : base ≤ w.heap.size) (C : Nat) (w0 : World) (hb : Below C w0 w) (hC : C ≤ base)
    (h : ∀ A' c' w', Hid (OwnP w' base (.slice A' (l ++ p).length c') (l ++ p)) → Hid (Below C w0 w') → Hid (base ≤ w'.heap.size) → wpList Tryz.prog ops Q rest (a.put o.dst (.slice A' (l ++ p).length c')) w') : wpList Tryz.prog ops Q (o :: rest) a w := by
  obtain ⟨i0, hi, hz0, hz1, hz2⟩ := info_parts info_pair
  refine BigFrame.wpList_want hgd fun K hK => ?_
  refine wp_addAny (enc := cellsS) (k := 2) 37 69 32 i0 _ Tryz.underlying37 hi hz0 hz1 hz2 rfl (by decide) cellsS_len cellsS_one s x ho base v l hs hown B v2 p hx hp (by unfold maxLen; omega) (by omega) hbase fun A' c' w' h1 h2 => ?_
  exact hK _ _ (h A' c' w' (Lib.hid h1) (Lib.hid (hown.grown hb h2 hC (Nat.le_trans hC hbase))) (Lib.hid (Nat.le_trans hbase h2.size)))

/-- pairs behind a change: what is laid behind, if the change's own pair is laid already or not -/
def oneGo (c : Chg) : Bool → List (K × K) → List (K × K)
  | put, [] => if put then [] else [(c.key, c.val)]
  | put, p :: r => (if !put && decide (c.key ≤ p.1) then [(c.key, c.val)] else []) ++ ((if hasB (cspan c) p.1 then [] else [p]) ++ oneGo c (put || decide (c.key ≤ p.1)) r)
def oneP (l : List (K × K)) (c : Chg) : List (K × K) := oneGo c (!decide (c.kind = 1)) l

end Go.Proofs.YtbifnogocmgddaaGreat
namespace Go.Proofs.YtbifnogocmgddaaGreat
open Go.RowKit
attribute [local go_sem] less_eq same_eq le_eq ge_eq gt_eq

/-- are pairs sound, if the last key ahead of them is p? -/
noncomputable def okFrom : Option K → List (K × K) → Bool
  | _, [] => true
  | p, x :: r => open Classical in if x.1.size > 16 ∨ x.2.size > 64 ∨ (∃ q, p = some q ∧ x.1 ≤ q) then false else okFrom (some x.1) r
noncomputable def soundP (l : List (K × K)) : Bool := okFrom none l

end Go.Proofs.YtbifnogocmgddaaGreat
namespace Go.Proofs.YtbifnogocmgddaaGreat

theorem oneGo_len (c : Chg) : ∀ (l : List (K × K)) (put : Bool), (oneGo c put l).length + (if put then 1 else 0) ≤ l.length + 1
  | [], put => by cases put <;> simp [oneGo]
  | p :: r, put => by
    have h := oneGo_len c r (put || decide (c.key ≤ p.1))
    rw [oneGo]
    cases put
    · by_cases hk : c.key ≤ p.1
      · simp only [Bool.not_false, Bool.true_and, hk, decide_true, if_true, Bool.false_or, List.length_append, List.length_cons, List.length_nil, Bool.false_eq_true, if_false] at h ⊢
        split <;> simp <;> omega
      · simp only [Bool.not_false, Bool.true_and, hk, decide_false, Bool.false_or, List.length_append, List.length_cons, List.length_nil, Bool.false_eq_true, if_false] at h ⊢
        split <;> simp <;> omega
    · simp only [Bool.not_true, Bool.false_and, Bool.true_or, if_true, List.length_append, List.length_cons, List.length_nil, Bool.false_eq_true, if_false] at h ⊢
      split <;> simp <;> omega
theorem oneP_len (l : List (K × K)) (c : Chg) : (oneP l c).length ≤ l.length + 1 := by
  have h := oneGo_len c l (!decide (c.kind = 1))
  unfold oneP
  omega
/-- pairs behind changes -/
def applyP (l : List (K × K)) (cs : List Chg) : List (K × K) := cs.foldl oneP l
theorem applyP_len (l : List (K × K)) : ∀ cs : List Chg, (applyP l cs).length ≤ l.length + cs.length
  | [] => by simp [applyP]
  | c :: r => by
    have h1 := applyP_len (oneP l c) r
    have h2 := oneP_len l c
    show (applyP (oneP l c) r).length ≤ _
    simp only [List.length_cons]
    omega
theorem applyP_take (l : List (K × K)) (cs : List Chg) (j : Nat) (h : j < cs.length) : applyP l (cs.take (j + 1)) = oneP (applyP l (cs.take j)) cs[j] := by
  unfold applyP
  rw [List.take_add_one, List.getElem?_eq_getElem h, Option.toList_some, List.foldl_append]
  rfl
theorem applyP_append (l : List (K × K)) (a b : List Chg) : applyP l (a ++ b) = applyP (applyP l a) b := by simp [applyP]

abbrev Prs := List (K × K)
/-- a Past: the pairs behind each version at which something was done, by rising versions -/
structure Pa where
  first : Int
  last : Int
  l : List (Int × Prs)
/-- the pairs at a version -/
def atL (l : List (Int × Prs)) (v : Int) : Prs := l.foldl (fun acc x => if x.1 ≤ v then x.2 else acc) []
theorem atL_take (l : List (Int × Prs)) (v : Int) (i : Nat) (h : i < l.length) : atL (l.take (i + 1)) v = if l[i].1 ≤ v then l[i].2 else atL (l.take i) v := by
  unfold atL
  rw [List.take_add_one, List.getElem?_eq_getElem h, Option.toList_some, List.foldl_append]
  rfl
theorem atL_snoc (l : List (Int × Prs)) (v u : Int) (ps : Prs) : atL (l ++ [(u, ps)]) v = if u ≤ v then ps else atL l v := by
  unfold atL
  rw [List.foldl_append]
  rfl
/-- the first pair of a key -/
def valOf (l : Prs) (k : K) : K × Bool := match l.find? (fun p => decide (p.1 = k)) with
  | some p => (p.2, true)
  | none => (⟨#[]⟩, false)
namespace Pa
def new : Pa := ⟨0, 0, []⟩
def from_ (v : Int) (ps : Prs) : Pa := ⟨v, v, [(v, ps)]⟩
def at_ (p : Pa) (v : Int) : Prs := atL p.l v
def known (p : Pa) (v : Int) : Int := if v < p.first then 7 else if p.last < v then 8 else 0
def add (p : Pa) (v : Int) (cs : List Chg) : Int × Pa :=
  if v ≤ p.last then (9, p) else if allAns cs ≠ 0 then (allAns cs, p) else (0, { p with last := v, l := p.l ++ [(v, applyP (p.at_ p.last) cs)] })
def get (p : Pa) (k : K) (v : Int) : (K × Bool) × Int := if p.known v ≠ 0 then ((⟨#[]⟩, false), p.known v) else (valOf (p.at_ v) k, 0)
def list (p : Pa) (s : K × K) (v most : Int) : Prs × Int :=
  if p.known v ≠ 0 then ([], p.known v) else if most < 0 then ([], 1) else (((p.at_ v).filter (fun x => hasB s x.1)).take most.toNat, 0)
def forget (p : Pa) (v : Int) : Int × Pa := if p.last < v then (8, p) else if p.first < v then (0, { p with first := v }) else (0, p)
def back (p : Pa) (v : Int) : Int × Pa := if p.known v ≠ 0 then (p.known v, p) else (0, { p with last := v, l := p.l.filter fun x => decide (x.1 ≤ v) })
end Pa
end Go.Proofs.YtbifnogocmgddaaGreat
namespace Go.Proofs.YtbifnogocmgddaaGreat
open Go.RowKit
abbrev RdPG (w : World) (B : Nat) (G : Nat → Prop) (v : Value) (l : Prs) : Prop := RdG cellsS 2 w B G v l
end Go.Proofs.YtbifnogocmgddaaGreat
namespace Go.Proofs.YtbifnogocmgddaaGreat

theorem lists_gt : ∀ l : List UInt8, l < l ++ [0]
  | [] => by decide
  | a :: l => by
    have := lists_gt l
    exact List.Lex.cons this
theorem lists_gap : ∀ l m : List UInt8, m ≤ l ∨ l ++ [0] ≤ m
  | [], [] => .inl (by decide)
  | [], b :: m => .inr (by
      show ¬ (b :: m : List UInt8) < [0]
      intro h
      cases h with
      | rel h => exact absurd h (by simp [UInt8.lt_iff_toNat_lt])
      | cons h => cases h)
  | a :: l, [] => .inl (by show ¬ (a :: l : List UInt8) < []; intro h; cases h)
  | a :: l, b :: m => by
    rcases Nat.lt_trichotomy b.toNat a.toNat with h | h | h
    · exact .inl (Std.le_of_lt (List.Lex.rel (UInt8.lt_iff_toNat_lt.2 h)))
    · obtain rfl : b = a := UInt8.toNat_inj.1 h
      rcases lists_gap l m with h1 | h1
      · refine .inl ?_
        show ¬ (b :: l : List UInt8) < b :: m
        intro h2
        cases h2 with
        | rel h => exact absurd h (by simp)
        | cons h => exact h1 h
      · refine .inr ?_
        show ¬ (b :: m : List UInt8) < b :: (l ++ [0])
        intro h2
        cases h2 with
        | rel h => exact absurd h (by simp)
        | cons h => exact h1 h
    · exact .inr (Std.le_of_lt (List.Lex.rel (UInt8.lt_iff_toNat_lt.2 h)))
theorem next_data (k : K) : (k ++ ⟨#[0]⟩ : K).data.toList = k.data.toList ++ [0] := by simp
theorem next_gt (k : K) : k < k ++ ⟨#[0]⟩ := by
  show k.data.toList < (k ++ ⟨#[0]⟩ : K).data.toList
  rw [next_data]; exact lists_gt _
theorem next_gap (k m : K) : m ≤ k ∨ k ++ ⟨#[0]⟩ ≤ m := by
  show m.data.toList ≤ k.data.toList ∨ (k ++ ⟨#[0]⟩ : K).data.toList ≤ m.data.toList
  rw [next_data]; exact lists_gap _ _

theorem next_only (a k : K) : (a ≤ k ∧ k < a ++ ⟨#[0]⟩) ↔ k = a := by
  have h1 := next_gt a
  have h2 := next_gap a k
  constructor
  · rintro ⟨h3, h4⟩
    rcases h2 with h | h <;> grind
  · rintro rfl
    exact ⟨Std.IsPreorder.le_refl _, h1⟩
def Rises (l : List (K × K)) : Prop := l.Pairwise (fun a b => a.1 < b.1)
theorem Rises.lt {l : List (K × K)} (h : Rises l) {i j : Nat} (hj : j < l.length) (hij : i < j) : l[i].1 < l[j].1 := List.pairwise_iff_getElem.1 h i j (by omega) hj hij
theorem key_next (a k : K) : (a ≤ k ∧ k < a ++ ⟨#[0]⟩) ↔ k = a := next_only a k
theorem has_cspan (c : Chg) (hc : c.kind ≠ 3) (k : K) : has (cspan c) k ↔ k = c.key := by
  unfold cspan has
  rw [if_neg hc]
  exact key_next c.key k
theorem hasB_iff (s : K × K) (k : K) : hasB s k = true ↔ has s k := by
  unfold hasB has
  simp
theorem mem_oneGo (c : Chg) (p : K × K) : ∀ (l : List (K × K)) (put : Bool), p ∈ oneGo c put l ↔ (p ∈ l ∧ ¬ has (cspan c) p.1) ∨ (put = false ∧ p = (c.key, c.val))
  | [], put => by cases put <;> simp [oneGo]
  | x :: r, put => by
    have ih1 := mem_oneGo c p r true
    have ih2 := mem_oneGo c p r (put || decide (c.key ≤ x.1))
    rw [oneGo, List.mem_append, List.mem_append, ih2]
    have hx := hasB_iff (cspan c) x.1
    cases put
    · by_cases hk : c.key ≤ x.1
      · by_cases hb : hasB (cspan c) x.1 = true
        · have := hx.1 hb
          simp [hk, hb]
          constructor
          · rintro (h | ⟨h1, h2⟩)
            · exact .inr h
            · exact .inl ⟨.inr h1, h2⟩
          · rintro (⟨h1 | h1, h2⟩ | h)
            · subst h1; exact absurd this h2
            · exact .inr ⟨h1, h2⟩
            · exact .inl h
        · have hn : ¬ has (cspan c) x.1 := fun h => hb (hx.2 h)
          simp [hk, hb]
          constructor
          · rintro (h | h | ⟨h1, h2⟩)
            · exact .inr h
            · subst h; exact .inl ⟨.inl rfl, hn⟩
            · exact .inl ⟨.inr h1, h2⟩
          · rintro (⟨h1 | h1, h2⟩ | h)
            · exact .inr (.inl h1)
            · exact .inr (.inr ⟨h1, h2⟩)
            · exact .inl h
      · by_cases hb : hasB (cspan c) x.1 = true
        · have := hx.1 hb
          simp [hk, hb]
          constructor
          · rintro (⟨h1, h2⟩ | h)
            · exact .inl ⟨.inr h1, h2⟩
            · exact .inr h
          · rintro (⟨h1 | h1, h2⟩ | h)
            · subst h1; exact absurd this h2
            · exact .inl ⟨h1, h2⟩
            · exact .inr h
        · have hn : ¬ has (cspan c) x.1 := fun h => hb (hx.2 h)
          simp [hk, hb]
          constructor
          · rintro (h | ⟨h1, h2⟩ | h)
            · subst h; exact .inl ⟨.inl rfl, hn⟩
            · exact .inl ⟨.inr h1, h2⟩
            · exact .inr h
          · rintro (⟨h1 | h1, h2⟩ | h)
            · exact .inl h1
            · exact .inr (.inl ⟨h1, h2⟩)
            · exact .inr (.inr h)
    · by_cases hb : hasB (cspan c) x.1 = true
      · have := hx.1 hb
        simp [hb]
        intro h2 h1
        subst h1; exact absurd this h2
      · have hn : ¬ has (cspan c) x.1 := fun h => hb (hx.2 h)
        simp [hb]
        constructor
        · rintro (h | ⟨h1, h2⟩)
          · subst h; exact ⟨.inl rfl, hn⟩
          · exact ⟨.inr h1, h2⟩
        · rintro ⟨h1 | h1, h2⟩
          · exact .inl h1
          · exact .inr ⟨h1, h2⟩
theorem mem_oneP (l : List (K × K)) (c : Chg) (p : K × K) : p ∈ oneP l c ↔ (p ∈ l ∧ ¬ has (cspan c) p.1) ∨ (c.kind = 1 ∧ p = (c.key, c.val)) := by
  unfold oneP
  rw [mem_oneGo]
  simp

theorem rises_cons {x : K × K} {r : List (K × K)} : Rises (x :: r) ↔ (∀ p ∈ r, x.1 < p.1) ∧ Rises r := List.pairwise_cons
theorem rises_append {a b : List (K × K)} : Rises (a ++ b) ↔ Rises a ∧ Rises b ∧ ∀ p ∈ a, ∀ q ∈ b, p.1 < q.1 := List.pairwise_append
theorem rises_oneGo (c : Chg) : ∀ (l : List (K × K)) (put : Bool), (put = false → c.kind = 1) → Rises l → Rises (oneGo c put l)
  | [], put, _, _ => by cases put <;> simp [oneGo, Rises]
  | x :: r, put, hk, h => by
    obtain ⟨h1, h2⟩ := rises_cons.1 h
    have hx := hasB_iff (cspan c) x.1
    rw [oneGo]
    cases put
    · have hk1 := hk rfl
      by_cases hkx : c.key ≤ x.1
      · have ih := rises_oneGo c r true (by simp) h2
        have hm := fun p => mem_oneGo c p r true
        simp only [Bool.not_false, Bool.true_and, hkx, decide_true, if_true, Bool.or_true]
        by_cases hb : hasB (cspan c) x.1 = true
        · simp only [hb, if_true, List.nil_append]
          refine rises_append.2 ⟨by simp [Rises], ih, fun p hp q hq => ?_⟩
          simp only [List.mem_singleton] at hp; subst hp
          have h3 := h1 q (by have := (hm q).1 hq; simp at this; exact this.1)
          simp only; grind
        · have hn : ¬ has (cspan c) x.1 := fun h => hb (hx.2 h)
          have hne : x.1 ≠ c.key := fun e => hn ((has_cspan c (by omega) x.1).2 e)
          simp only [hb]
          refine rises_append.2 ⟨by simp [Rises], rises_append.2 ⟨by simp [Rises], ih, fun p hp q hq => ?_⟩, fun p hp q hq => ?_⟩
          · simp only [Bool.false_eq_true, if_false, List.mem_singleton] at hp; subst hp
            exact h1 q (by have := (hm q).1 hq; simp at this; exact this.1)
          · simp only [List.mem_singleton] at hp; subst hp
            rcases List.mem_append.1 hq with hq | hq
            · simp only [Bool.false_eq_true, if_false, List.mem_singleton] at hq; subst hq
              simp only; grind
            · have h3 := h1 q (by have := (hm q).1 hq; simp at this; exact this.1)
              simp only; grind
      · have ih := rises_oneGo c r false (fun _ => hk1) h2
        have hm := fun p => mem_oneGo c p r false
        simp only [Bool.not_false, Bool.true_and, hkx, decide_false, Bool.false_eq_true, if_false, Bool.or_false, List.nil_append]
        refine rises_append.2 ⟨by split <;> simp [Rises], ih, fun p hp q hq => ?_⟩
        have hpx : p = x := by split at hp <;> simp at hp; exact hp
        subst hpx
        rcases (hm q).1 hq with ⟨h3, _⟩ | ⟨_, h3⟩
        · exact h1 q h3
        · rw [h3]; simp only; grind
    · have ih := rises_oneGo c r true (by simp) h2
      have hm := fun p => mem_oneGo c p r true
      simp only [Bool.not_true, Bool.false_and, Bool.false_eq_true, if_false, Bool.true_or, List.nil_append]
      refine rises_append.2 ⟨by split <;> simp [Rises], ih, fun p hp q hq => ?_⟩
      have hpx : p = x := by split at hp <;> simp at hp; exact hp
      subst hpx
      exact h1 q (by have := (hm q).1 hq; simp at this; exact this.1)
theorem rises_oneP {l : List (K × K)} (c : Chg) (h : Rises l) : Rises (oneP l c) := rises_oneGo c l _ (by simp) h

theorem soundP_spec {l : List (K × K)} (h : soundP l = true) : Rises l ∧ ∀ p ∈ l, p.1.size ≤ 16 ∧ p.2.size ≤ 64 := by
  have key : ∀ (l : List (K × K)) (o : Option K), okFrom o l = true → Rises l ∧ (∀ p ∈ l, p.1.size ≤ 16 ∧ p.2.size ≤ 64) ∧ ∀ q, o = some q → ∀ p ∈ l, q < p.1 := by
    intro l
    induction l with
    | nil => intro o _; exact ⟨.nil, by simp, by simp⟩
    | cons x r ih =>
      intro o h
      rw [okFrom] at h
      split at h
      · simp at h
      · rename_i hn
        obtain ⟨i1, i2, i3⟩ := ih _ h
        have i4 := i3 x.1 rfl
        refine ⟨rises_cons.2 ⟨i4, i1⟩, fun p hp => ?_, fun q hq p hp => ?_⟩
        · rcases List.mem_cons.1 hp with rfl | hp
          · exact ⟨by omega, by omega⟩
          · exact i2 p hp
        · have hqx : q < x.1 := by
            rcases Classical.em (x.1 ≤ q) with h5 | h5
            · exact absurd (.inr (.inr ⟨q, hq, h5⟩)) hn
            · grind
          rcases List.mem_cons.1 hp with rfl | hp
          · exact hqx
          · have := i4 p hp; grind
  obtain ⟨a, b, _⟩ := key l none h
  exact ⟨a, b⟩
theorem rises_applyP {l : List (K × K)} (h : Rises l) : ∀ cs : List Chg, Rises (applyP l cs) := by
  intro cs
  induction cs generalizing l with
  | nil => exact h
  | cons c r ih => exact ih (rises_oneP c h)
theorem rises_atL : ∀ {l : List (Int × Prs)} (_ : ∀ x ∈ l, Rises x.2) (v : Int), Rises (atL l v) := by
  intro l h v
  have key : ∀ (l : List (Int × Prs)) (acc : Prs), Rises acc → (∀ x ∈ l, Rises x.2) → Rises (l.foldl (fun acc x => if x.1 ≤ v then x.2 else acc) acc) := by
    intro l
    induction l with
    | nil => intro acc h _; exact h
    | cons x r ih =>
      intro acc ha hl
      rw [List.foldl_cons]
      refine ih _ ?_ (fun y hy => hl y (List.mem_cons_of_mem _ hy))
      split
      · exact hl x (by simp)
      · exact ha
  exact key l [] .nil h
theorem key_one {P : Prs} (h : Rises P) {x y : K × K} (hx : x ∈ P) (hy : y ∈ P) (e : x.1 = y.1) : x = y := by
  obtain ⟨i, hi, rfl⟩ := List.mem_iff_getElem.1 hx
  obtain ⟨j, hj, rfl⟩ := List.mem_iff_getElem.1 hy
  rcases Nat.lt_trichotomy i j with k | k | k
  · have := h.lt hj k; rw [e] at this; grind
  · subst k; rfl
  · have := h.lt hi k; rw [e] at this; grind
theorem valOf_mem {P : Prs} (h : Rises P) {x : K × K} (hx : x ∈ P) : valOf P x.1 = (x.2, true) := by
  unfold valOf
  cases hf : P.find? (fun p => decide (p.1 = x.1)) with
  | none => have := List.find?_eq_none.1 hf x hx; simp at this
  | some y =>
    have h1 := List.mem_of_find?_eq_some hf
    have h2 := List.find?_some hf
    rw [key_one h h1 hx (by simpa using h2)]
theorem valOf_of {P : Prs} {k v : K} (h : valOf P k = (v, true)) : (k, v) ∈ P := by
  unfold valOf at h
  cases hf : P.find? (fun p => decide (p.1 = k)) with
  | none => rw [hf] at h; simp at h
  | some y =>
    rw [hf] at h
    have h1 := List.mem_of_find?_eq_some hf
    have h2 := List.find?_some hf
    simp at h h2
    rw [← h2, ← h]; exact h1
theorem valOf_none {P : Prs} {k : K} (h : (valOf P k).2 = false) : valOf P k = (⟨#[]⟩, false) ∧ ∀ x ∈ P, x.1 ≠ k := by
  unfold valOf at h ⊢
  cases hf : P.find? (fun p => decide (p.1 = k)) with
  | none => exact ⟨rfl, fun x hx => by have := List.find?_eq_none.1 hf x hx; simpa using this⟩
  | some y => rw [hf] at h; simp at h
/-- the entry of a key and its value -/
def isKV (k v : K) (x : K × K) : Bool := decide (x.1 = k) && decide (x.2 = v)
open Classical in
theorem count_kv : ∀ {P : Prs} (_ : Rises P) (k v : K), P.countP (isKV k v) = if (k, v) ∈ P then 1 else 0
  | [], _, k, v => by simp
  | x :: r, h, k, v => by
    obtain ⟨h1, h2⟩ := rises_cons.1 h
    have ih := count_kv h2 k v
    rw [List.countP_cons, ih]
    by_cases hx : x = (k, v)
    · subst hx
      have hn : (k, v) ∉ r := fun hm => by have := h1 _ hm; simp only at this; grind
      simp [isKV, hn]
    · have he : isKV k v x = false := by
        unfold isKV
        rcases Classical.em (x.1 = k) with e1 | e1
        · rcases Classical.em (x.2 = v) with e2 | e2
          · exact absurd (by rw [← e1, ← e2]) hx
          · simp [e2]
        · simp [e1]
      have hx' : ¬ ((k, v) = x) := fun e => hx e.symm
      simp [he, List.mem_cons, hx']
open Classical in
/-- how often the entry of a key stands in a span: what PastKeys asks -/
theorem found_kv {P : Prs} (h : Rises P) (s : K × K) (k v : K) (b : Bool) (hv : valOf P k = (v, b)) : (P.filter (fun x => hasB s x.1)).countP (isKV k v) = if b && hasB s k then 1 else 0 := by
  have hq : Rises (P.filter (fun x => hasB s x.1)) := List.Pairwise.filter _ h
  rw [count_kv hq]
  have hm : (k, v) ∈ P.filter (fun x => hasB s x.1) ↔ (b && hasB s k) = true := by
    rw [List.mem_filter]
    cases b
    · obtain ⟨_, h2⟩ := valOf_none (by rw [hv])
      simp only [Bool.false_and, Bool.false_eq_true, iff_false, not_and]
      intro hm
      exact absurd rfl (h2 _ hm)
    · have := valOf_of hv
      simp [this]
  by_cases hb : (b && hasB s k) = true
  · rw [if_pos hb, if_pos (hm.2 hb)]
  · rw [if_neg hb, if_neg (fun e => hb (hm.1 e))]
theorem found_cases {P : Prs} (h : Rises P) (s : K × K) (k v : K) (b : Bool) (hv : valOf P k = (v, b)) : (b = true ∧ hasB s k = true ∧ (P.filter (fun x => hasB s x.1)).countP (isKV k v) = 1) ∨ (b = true ∧ hasB s k = false ∧ (P.filter (fun x => hasB s x.1)).countP (isKV k v) = 0) ∨ (b = false ∧ (P.filter (fun x => hasB s x.1)).countP (isKV k v) = 0) := by
  have h1 := found_kv h s k v b hv
  cases b
  · exact .inr (.inr ⟨rfl, by simpa using h1⟩)
  · cases hs : hasB s k
    · exact .inr (.inl ⟨rfl, rfl, by rw [hs] at h1; simpa using h1⟩)
    · exact .inl ⟨rfl, rfl, by rw [hs] at h1; simpa using h1⟩
theorem count_step (k v : K) (Q : Prs) (i : Nat) (h : i < Q.length) : (Q.take (i + 1)).countP (isKV k v) = (Q.take i).countP (isKV k v) + (if isKV k v Q[i] = true then 1 else 0) := by
  rw [List.take_add_one, List.getElem?_eq_getElem h, Option.toList_some, List.countP_append, List.countP_singleton]
theorem get_good {p : Pa} {k : K} {v : Int} (h1 : ¬ v < p.first) (h2 : ¬ p.last < v) : p.get k v = (valOf (p.at_ v) k, 0) := by
  have hk : p.known v = 0 := by unfold Pa.known; rw [if_neg h1, if_neg h2]
  unfold Pa.get
  rw [hk, if_neg (by simp)]
theorem atL_all {R : K × K → Prop} : ∀ {l : List (Int × Prs)} (_ : ∀ x ∈ l, ∀ p ∈ x.2, R p) (v : Int), ∀ p ∈ atL l v, R p := by
  intro l h v
  have key : ∀ (l : List (Int × Prs)) (acc : Prs), (∀ p ∈ acc, R p) → (∀ x ∈ l, ∀ p ∈ x.2, R p) → ∀ p ∈ l.foldl (fun acc x => if x.1 ≤ v then x.2 else acc) acc, R p := by
    intro l
    induction l with
    | nil => intro acc h _; exact h
    | cons x r ih =>
      intro acc ha hl
      rw [List.foldl_cons]
      refine ih _ ?_ (fun y hy => hl y (List.mem_cons_of_mem _ hy))
      split
      · exact hl x (by simp)
      · exact ha
  exact key l [] (by simp) h
theorem all_applyP {R : K × K → Prop} : ∀ {cs : List Chg} {l : Prs} (_ : ∀ p ∈ l, R p) (_ : ∀ c ∈ cs, R (c.key, c.val)), ∀ p ∈ applyP l cs, R p
  | [], _, h, _ => h
  | c :: r, l, h, hc => all_applyP (cs := r) (l := oneP l c) (fun p hp => by
      rcases (mem_oneP l c p).1 hp with ⟨h1, _⟩ | ⟨_, h1⟩
      · exact h p h1
      · rw [h1]; exact hc c (by simp)) (fun c' h' => hc c' (List.mem_cons_of_mem _ h'))
end Go.Proofs.YtbifnogocmgddaaGreat
namespace Go.Proofs.YtbifnogocmgddaaGreat

def I64 (n : Int) : Prop := -9223372036854775808 ≤ n ∧ n < 9223372036854775808
def many : Nat := 3000000
abbrev Dd := Int × Chg
/-- what was done up to a version -/
def upD (ds : List Dd) (v : Int) : List Dd := ds.filter (fun d => decide (d.1 ≤ v))
def chgs (ds : List Dd) : List Chg := ds.map (·.2)
theorem chgs_len (ds : List Dd) : (chgs ds).length = ds.length := List.length_map _
/-- how many were done up to a version -/
def cnt (ds : List Dd) (v : Int) : Nat := ds.countP (fun d => decide (d.1 ≤ v))
theorem cnt_le (ds : List Dd) (v : Int) : cnt ds v ≤ ds.length := List.countP_le_length
def Rise (ds : List Dd) : Prop := ds.Pairwise (fun a b => a.1 ≤ b.1)
theorem cnt_take : ∀ {ds : List Dd} (_ : Rise ds) (v : Int), ds.take (cnt ds v) = upD ds v ∧ ds.drop (cnt ds v) = ds.filter (fun d => !decide (d.1 ≤ v))
  | [], _, v => by simp [cnt, upD]
  | x :: r, h, v => by
    obtain ⟨h1, h2⟩ := List.pairwise_cons.1 h
    obtain ⟨i1, i2⟩ := cnt_take (ds := r) h2 v
    by_cases hx : x.1 ≤ v
    · have e : cnt (x :: r) v = cnt r v + 1 := by unfold cnt; rw [List.countP_cons_of_pos (by simpa using hx)]
      rw [e, List.take_succ_cons, List.drop_succ_cons, i1, i2]
      unfold upD
      simp [hx]
    · have hr : ∀ d ∈ r, ¬ d.1 ≤ v := fun d hd => by have := h1 d hd; omega
      have e : cnt (x :: r) v = 0 := by
        unfold cnt
        rw [List.countP_eq_zero]
        intro d hd
        rcases List.mem_cons.1 hd with rfl | hd
        · simpa using hx
        · simpa using hr d hd
      rw [e, List.take_zero, List.drop_zero]
      constructor
      · symm
        unfold upD
        rw [List.filter_eq_nil_iff]
        intro d hd
        rcases List.mem_cons.1 hd with rfl | hd
        · simpa using hx
        · simpa using hr d hd
      · symm
        rw [List.filter_eq_self]
        intro d hd
        rcases List.mem_cons.1 hd with rfl | hd
        · simpa using hx
        · simpa using hr d hd
/-- the last one at or below a version tells how many there are -/
theorem cnt_at {ds : List Dd} (h : Rise ds) {v : Int} {i : Nat} (hi : i < ds.length) (h1 : ds[i].1 ≤ v) (h2 : ∀ j (_ : j < ds.length), i < j → ¬ ds[j].1 ≤ v) : cnt ds v = i + 1 := by
  unfold cnt
  have hs : ds = ds.take (i + 1) ++ ds.drop (i + 1) := (List.take_append_drop _ _).symm
  rw [hs, List.countP_append]
  have a : (ds.take (i + 1)).countP (fun d => decide (d.1 ≤ v)) = (ds.take (i + 1)).length := List.countP_eq_length.2 fun x hx => by
    obtain ⟨t, ht, rfl⟩ := List.getElem_of_mem hx
    simp at ht
    rw [List.getElem_take]
    rcases Nat.lt_or_ge t i with k | k
    · have := List.pairwise_iff_getElem.1 h t i (by omega) hi k
      simp; omega
    · have e : t = i := by omega
      subst e; simpa using h1
  have b : (ds.drop (i + 1)).countP (fun d => decide (d.1 ≤ v)) = 0 := List.countP_eq_zero.2 fun x hx => by
    obtain ⟨t, ht, rfl⟩ := List.getElem_of_mem hx
    simp at ht
    rw [List.getElem_drop]
    simpa using h2 (i + 1 + t) (by omega) (by omega)
  rw [a, b, List.length_take]
  omega
theorem cnt_zero {ds : List Dd} {v : Int} (h : ∀ j (_ : j < ds.length), ¬ ds[j].1 ≤ v) : cnt ds v = 0 := List.countP_eq_zero.2 fun x hx => by
  obtain ⟨t, ht, rfl⟩ := List.getElem_of_mem hx
  simpa using h t ht

theorem sound_of {l : List (K × K)} (h1 : Rises l) (h2 : ∀ p ∈ l, p.1.size ≤ 16 ∧ p.2.size ≤ 64) : soundP l = true := by
  have key : ∀ (l : List (K × K)) (o : Option K), Rises l → (∀ p ∈ l, p.1.size ≤ 16 ∧ p.2.size ≤ 64) → (∀ q, o = some q → ∀ p ∈ l, q < p.1) → okFrom o l = true := by
    intro l
    induction l with
    | nil => intro o _ _ _; rfl
    | cons x r ih =>
      intro o h1 h2 h3
      obtain ⟨i1, i2⟩ := rises_cons.1 h1
      have hx := h2 x (by simp)
      rw [okFrom, if_neg]
      · exact ih _ i2 (fun p hp => h2 p (by simp [hp])) fun q hq p hp => by
          injection hq with hq
          rw [← hq]; exact i1 p hp
      · rintro (h | h | ⟨q, hq, h⟩)
        · omega
        · omega
        · have := h3 q hq x (by simp)
          grind
  exact key l none h1 h2 (by simp)
theorem check_put {c : Chg} (h : checkAns c = 0) (hk : c.kind = 1) : c.key.size ≤ 16 ∧ c.val.size ≤ 64 := by
  unfold checkAns at h
  rw [if_pos hk] at h
  split at h
  · simp at h
  · omega
theorem sound_one {l : List (K × K)} (h : soundP l = true) {c : Chg} (hc : checkAns c = 0) : soundP (oneP l c) = true := by
  obtain ⟨h1, h2⟩ := soundP_spec h
  refine sound_of (rises_oneP c h1) fun p hp => ?_
  rcases (mem_oneP l c p).1 hp with ⟨h3, _⟩ | ⟨hk, rfl⟩
  · exact h2 p h3
  · exact check_put hc hk
theorem sound_apply : ∀ {cs : List Chg} {l : List (K × K)} (_ : soundP l = true) (_ : ∀ c ∈ cs, checkAns c = 0), soundP (applyP l cs) = true
  | [], _, h, _ => h
  | c :: r, l, h, hc => sound_apply (cs := r) (l := oneP l c) (sound_one h (hc c (by simp))) (fun c' h' => hc c' (List.mem_cons_of_mem _ h'))
theorem allAns_ok : ∀ {cs : List Chg}, (∀ c ∈ cs, checkAns c = 0) → allAns cs = 0
  | [], _ => rfl
  | c :: r, h => by
    unfold allAns
    rw [if_pos (h c (by simp))]
    exact allAns_ok fun c' h' => h c' (List.mem_cons_of_mem _ h')
theorem allAnsP_all : ∀ {cs : List Chg}, allAns cs = 0 → ∀ c ∈ cs, checkAns c = 0
  | [], _, c, hc => by simp at hc
  | x :: r, h, c, hc => by
    unfold allAns at h
    split at h
    · rename_i h1
      rcases List.mem_cons.1 hc with rfl | hc
      · exact h1
      · exact allAnsP_all h c hc
    · contradiction
/-- is a key one of those that a change is about -/
def namesB (c : Chg) (k : K) : Bool := if c.kind = 3 then hasB (c.key, c.val) k else decide (c.key = k)
/-- what a key has behind a change that is about it -/
def leftV (c : Chg) : K × Bool := if c.kind = 1 then (c.val, true) else (⟨#[]⟩, false)
theorem namesB_iff (c : Chg) (k : K) : namesB c k = true ↔ has (cspan c) k := by
  unfold namesB
  by_cases h3 : c.kind = 3
  · rw [if_pos h3, hasB_iff]
    unfold cspan
    rw [if_pos h3]
  · rw [if_neg h3, has_cspan c h3]
    simp [eq_comm]
theorem valOf_no {P : Prs} {k : K} (h : ∀ x ∈ P, x.1 ≠ k) : valOf P k = (⟨#[]⟩, false) := by
  unfold valOf
  rw [List.find?_eq_none.2 (fun x hx => by simpa using h x hx)]
theorem valOf_one {l : Prs} (h : Rises l) (c : Chg) (k : K) : valOf (oneP l c) k = if namesB c k then leftV c else valOf l k := by
  have hr := rises_oneP c h
  have hm := fun p => mem_oneP l c p
  by_cases hn : namesB c k = true
  · rw [if_pos hn]
    have hh := (namesB_iff c k).1 hn
    unfold leftV
    by_cases h1 : c.kind = 1
    · rw [if_pos h1]
      have e : k = c.key := (has_cspan c (by omega) k).1 hh
      rw [e]
      exact valOf_mem hr (x := (c.key, c.val)) ((hm _).2 (.inr ⟨h1, rfl⟩))
    · rw [if_neg h1]
      refine valOf_no fun x hx e => ?_
      rcases (hm x).1 hx with ⟨_, h2⟩ | ⟨h2, _⟩
      · exact h2 (by rw [e]; exact hh)
      · exact h1 h2
  · rw [if_neg hn]
    have hh : ¬ has (cspan c) k := fun e => hn ((namesB_iff c k).2 e)
    have hk : c.kind = 1 → k ≠ c.key := fun h1 e => hh ((has_cspan c (by omega) k).2 e)
    cases hv : (valOf l k).2 with
    | false =>
      obtain ⟨e1, e2⟩ := valOf_none hv
      rw [e1]
      refine valOf_no fun x hx e => ?_
      rcases (hm x).1 hx with ⟨h2, _⟩ | ⟨h2, h3⟩
      · exact e2 x h2 e
      · exact hk h2 (by rw [← e, h3])
    | true =>
      have e1 : valOf l k = ((valOf l k).1, true) := by rw [← hv]
      have h2 := valOf_of e1
      have h3 := valOf_mem hr (x := (k, (valOf l k).1)) ((hm _).2 (.inl ⟨h2, hh⟩))
      rw [e1]
      exact h3
/-- of all that was done to a key the last one counts -/
theorem valOf_apply : ∀ {cs : List Chg} {l : Prs} (_ : Rises l) (k : K) (i : Nat) (_ : i ≤ cs.length) (_ : ∀ j (_ : j < cs.length), i ≤ j → namesB cs[j] k = false), valOf (applyP l cs) k = valOf (applyP l (cs.take i)) k := by
  intro cs l hl k i hi h
  obtain ⟨n, hn⟩ : ∃ n, cs.length - i = n := ⟨_, rfl⟩
  induction n generalizing i with
  | zero =>
    have : i = cs.length := by omega
    subst this
    rw [List.take_length]
  | succ n ih =>
    have hlt : i < cs.length := by omega
    rw [ih (i + 1) (by omega) (fun j hj hij => h j hj (by omega)) (by omega), applyP_take l cs i hlt, valOf_one (rises_applyP hl _), h i hlt (Nat.le_refl _)]
    simp
theorem valOf_last {cs : List Chg} {l : Prs} (hl : Rises l) (k : K) (i : Nat) (hi : i < cs.length) (hn : namesB cs[i] k = true) (h : ∀ j (_ : j < cs.length), i < j → namesB cs[j] k = false) : valOf (applyP l cs) k = leftV cs[i] := by
  rw [valOf_apply hl k (i + 1) (by omega) (fun j hj hij => h j hj (by omega)), applyP_take l cs i hi, valOf_one (rises_applyP hl _), hn]
  simp

/-- what the program keeps: pairs at first, and what was done since -/
structure Gh (p : Pa) (bs : Prs) (ds : List Dd) (n : Nat) : Prop where
  link : ∀ u, p.first ≤ u → p.at_ u = applyP bs (chgs (upD ds u))
  ver : ∀ d ∈ ds, p.first < d.1 ∧ d.1 ≤ p.last
  rise : Rise ds
  ok : ∀ d ∈ ds, checkAns d.2 = 0
  sound : soundP bs = true
  fl : p.first ≤ p.last
  i1 : I64 p.first
  i2 : I64 p.last
  len : bs.length + ds.length ≤ n
  few : n ≤ many
section
variable {p : Pa} {bs : Prs} {ds : List Dd} {n : Nat} {u : Int}
theorem upD_all (h : ∀ d ∈ ds, d.1 ≤ u) : upD ds u = ds := List.filter_eq_self.2 fun d hd => by simpa using h d hd
theorem upD_none (h : ∀ d ∈ ds, ¬ d.1 ≤ u) : upD ds u = [] := List.filter_eq_nil_iff.2 fun d hd => by simpa using h d hd
theorem upD_append (a b : List Dd) (u : Int) : upD (a ++ b) u = upD a u ++ upD b u := List.filter_append ..
theorem upD_upD (u v : Int) : upD (upD ds v) u = upD ds (min u v) := by
  unfold upD
  rw [List.filter_filter]
  refine List.filter_congr fun d _ => ?_
  rw [← Bool.decide_and]
  congr 1
  apply propext
  omega
theorem chgs_append (a b : List Dd) : chgs (a ++ b) = chgs a ++ chgs b := List.map_append
theorem Gh.oks (h : Gh p bs ds n) (v : Int) : ∀ c ∈ chgs (upD ds v), checkAns c = 0 := by
  intro c hc
  obtain ⟨d, hd, rfl⟩ := List.mem_map.1 hc
  exact h.ok d (List.mem_filter.1 hd).1
theorem Gh.new : Gh Pa.new [] [] 0 := ⟨fun _ _ => rfl, by simp, .nil, by simp, rfl, Int.le_refl _, by unfold I64; show _ ≤ (0 : Int) ∧ (0 : Int) < _; omega, by unfold I64; show _ ≤ (0 : Int) ∧ (0 : Int) < _; omega, Nat.le_refl _, by unfold many; omega⟩
theorem Gh.from_ {v : Int} {ps : Prs} (hv : I64 v) (hs : soundP ps = true) (hn : ps.length ≤ many) : Gh (Pa.from_ v ps) ps [] ps.length :=
  ⟨fun u hu => by show atL [(v, ps)] u = ps; unfold atL; simp; intro h; exact absurd hu (by show ¬ v ≤ u; omega), by simp, .nil, by simp, hs, Int.le_refl _, hv, hv, Nat.le_refl _, hn⟩
theorem Gh.at_last (h : Gh p bs ds n) : p.at_ p.last = applyP bs (chgs ds) := by rw [h.link _ h.fl, upD_all (fun d hd => (h.ver d hd).2)]
theorem Gh.add (h : Gh p bs ds n) {v : Int} {cs : List Chg} (hv : I64 v) (h1 : ¬ v ≤ p.last) (h2 : ∀ c ∈ cs, checkAns c = 0) (hn : n + cs.length ≤ many) : ∃ p', p.add v cs = (0, p') ∧ p'.first = p.first ∧ p'.last = v ∧ Gh p' bs (ds ++ cs.map (fun c => (v, c))) (n + cs.length) := by
  refine ⟨{ p with last := v, l := p.l ++ [(v, applyP (p.at_ p.last) cs)] }, by unfold Pa.add; rw [if_neg h1, if_neg (by rw [allAns_ok h2]; simp)], rfl, rfl, ?_⟩
  have hf := h.fl
  have hc : chgs (cs.map (fun c => (v, c))) = cs := by unfold chgs; rw [List.map_map]; exact List.map_id cs
  refine ⟨fun u hu => ?_, fun d hd => ?_, ?_, fun d hd => ?_, h.sound, by show p.first ≤ v; omega, h.i1, hv, by have := h.len; simp; omega, hn⟩
  · show atL (p.l ++ [(v, applyP (p.at_ p.last) cs)]) u = _
    rw [atL_snoc, upD_append, chgs_append, applyP_append]
    by_cases hvu : v ≤ u
    · rw [if_pos hvu, h.at_last, upD_all (ds := ds) (fun d hd => by have := (h.ver d hd).2; omega), upD_all (ds := cs.map _) (fun d hd => by obtain ⟨c, _, rfl⟩ := List.mem_map.1 hd; exact hvu), hc]
    · rw [if_neg hvu, upD_none (ds := cs.map _) (fun d hd => by obtain ⟨c, _, rfl⟩ := List.mem_map.1 hd; exact hvu)]
      exact h.link u hu
  · show p.first < d.1 ∧ d.1 ≤ v
    rcases List.mem_append.1 hd with hd | hd
    · have := h.ver d hd; omega
    · obtain ⟨c, _, rfl⟩ := List.mem_map.1 hd
      simp only; omega
  · refine List.pairwise_append.2 ⟨h.rise, ?_, fun a ha b hb => ?_⟩
    · exact List.pairwise_map.2 (List.pairwise_of_forall (fun _ _ => Int.le_refl _))
    · obtain ⟨c, _, rfl⟩ := List.mem_map.1 hb
      have := (h.ver a ha).2
      simp only; omega
  · rcases List.mem_append.1 hd with hd | hd
    · exact h.ok d hd
    · obtain ⟨c, hc2, rfl⟩ := List.mem_map.1 hd
      exact h2 c hc2
theorem atL_filter (l : List (Int × Prs)) (u v : Int) : atL (l.filter fun x => decide (x.1 ≤ v)) u = atL l (min u v) := by
  have key : ∀ (l : List (Int × Prs)) (acc : Prs), (l.filter fun x => decide (x.1 ≤ v)).foldl (fun acc x => if x.1 ≤ u then x.2 else acc) acc = l.foldl (fun acc x => if x.1 ≤ min u v then x.2 else acc) acc := by
    intro l
    induction l with
    | nil => intro acc; rfl
    | cons x r ih =>
      intro acc
      by_cases hx : x.1 ≤ v
      · rw [List.filter_cons_of_pos (by simpa using hx), List.foldl_cons, List.foldl_cons, ih]
        congr 1
        by_cases hu : x.1 ≤ u
        · rw [if_pos hu, if_pos (by omega)]
        · rw [if_neg hu, if_neg (by omega)]
      · rw [List.filter_cons_of_neg (by simpa using hx), List.foldl_cons, ih, if_neg (by omega)]
  exact key l []
theorem Gh.back (h : Gh p bs ds n) {v : Int} (h1 : p.first ≤ v) (h2 : v ≤ p.last) : ∃ p', p.back v = (0, p') ∧ p'.first = p.first ∧ p'.last = v ∧ Gh p' bs (ds.take (cnt ds v)) n := by
  have hk : p.known v = 0 := by unfold Pa.known; rw [if_neg (by omega), if_neg (by omega)]
  refine ⟨{ p with last := v, l := p.l.filter fun x => decide (x.1 ≤ v) }, by unfold Pa.back; rw [hk, if_neg (by simp)], rfl, rfl, ?_⟩
  rw [(cnt_take h.rise v).1]
  have hsub : ∀ d ∈ upD ds v, d ∈ ds ∧ d.1 ≤ v := fun d hd => by have := List.mem_filter.1 hd; simpa using this
  refine ⟨fun u hu => ?_, fun d hd => ?_, List.Pairwise.filter _ h.rise, fun d hd => h.ok d (hsub d hd).1, h.sound, h1, h.i1, ?_, ?_, h.few⟩
  · show atL (p.l.filter _) u = _
    rw [atL_filter, upD_upD]
    exact h.link _ (by change p.first ≤ u at hu; omega)
  · have := h.ver d (hsub d hd).1
    have := (hsub d hd).2
    show p.first < d.1 ∧ d.1 ≤ v
    omega
  · have a := h.i1; have b := h.i2
    unfold I64 at *
    show _ ≤ v ∧ v < _
    omega
  · have := h.len
    have h3 : (upD ds v).length ≤ ds.length := List.length_filter_le _ _
    omega
theorem Gh.forget (h : Gh p bs ds n) {v : Int} (h1 : p.first < v) (h2 : v ≤ p.last) : ∃ p', p.forget v = (0, p') ∧ p'.first = v ∧ p'.last = p.last ∧ Gh p' (p.at_ v) (ds.drop (cnt ds v)) n := by
  refine ⟨{ p with first := v }, by unfold Pa.forget; rw [if_neg (by omega), if_pos h1], rfl, rfl, ?_⟩
  have hat := h.link v (by omega)
  have hl : (upD ds v).length = cnt ds v := by
    rw [← (cnt_take h.rise v).1, List.length_take]
    have := cnt_le ds v
    omega
  have hlen : (p.at_ v).length ≤ bs.length + cnt ds v := by
    rw [hat]
    have := applyP_len bs (chgs (upD ds v))
    rw [chgs_len, hl] at this
    exact this
  rw [(cnt_take h.rise v).2]
  have hsub : ∀ d ∈ ds.filter (fun d => !decide (d.1 ≤ v)), d ∈ ds ∧ v < d.1 := fun d hd => by have := List.mem_filter.1 hd; simpa using this
  have hd2 : (ds.filter (fun d => !decide (d.1 ≤ v))).length + cnt ds v = ds.length := by
    rw [← (cnt_take h.rise v).2, List.length_drop]
    have := cnt_le ds v
    omega
  refine ⟨fun u hu => ?_, fun d hd => ?_, List.Pairwise.filter _ h.rise, fun d hd => h.ok d (hsub d hd).1, ?_, h2, ?_, h.i2, by have := h.len; omega, h.few⟩
  · change v ≤ u at hu
    show p.at_ u = _
    rw [h.link u (by omega), hat, ← applyP_append, ← chgs_append]
    congr 2
    have e : ds = upD ds v ++ ds.filter (fun d => !decide (d.1 ≤ v)) := by rw [← (cnt_take h.rise v).1, ← (cnt_take h.rise v).2, List.take_append_drop]
    conv => lhs; rw [e, upD_append, upD_upD, show min u v = v by omega]
  · have := h.ver d (hsub d hd).1
    have := (hsub d hd).2
    show v < d.1 ∧ d.1 ≤ p.last
    omega
  · rw [hat]
    exact sound_apply h.sound (h.oks v)
  · have a := h.i1; have b := h.i2
    unfold I64 at *
    show _ ≤ v ∧ v < _
    omega
theorem Gh.at_sound (h : Gh p bs ds n) {v : Int} (h1 : p.first ≤ v) : soundP (p.at_ v) = true := by
  rw [h.link v h1]
  exact sound_apply h.sound (h.oks v)
end
end Go.Proofs.YtbifnogocmgddaaGreat
namespace Go.Proofs.YtbifnogocmgddaaGreat
open Go.RowKit
theorem Whole.shape {w : World} {g : Nat} {t : TypeId} {cs : List Value} (h : Whole w g t cs) : w.shape? g = some (t, cs.length) := by
  unfold Whole at h
  simp [World.shape?, h]
/-- the row of a slice of the call's own, whole -/
theorem Own.row {α : Type} {enc : α → List Value} {k : Nat} {e : TypeId} {w : World} {base : Nat} {v : Value} {l : List α} (h : Own enc k e w base v l) :
    (v = .slice none 0 0 ∧ l = []) ∨ ∃ g cap cur, v = .slice (some ⟨g, 0, none⟩) l.length cap ∧ base ≤ g ∧ Whole w g e cur ∧ l.length ≤ cap ∧ cap ≤ maxLen ∧ cur.length = cap * k ∧ cur.take (l.length * k) = flatG enc l := by
  rcases h.2 with ⟨hv, h0⟩ | ⟨g, cap, cur, hv, hb, hh, h1, h2, h3, h4⟩
  · exact .inl ⟨hv, List.eq_nil_of_length_eq_zero h0⟩
  · exact .inr ⟨g, cap, cur.toList, hv, hb, by unfold Whole; simpa using hh, h1, h2, by simpa using h3, h4⟩
theorem Own.ofRow {α : Type} {enc : α → List Value} {k : Nat} {e : TypeId} (hk : ∀ x, (enc x).length = k) {w : World} {base g cap : Nat} {cur : List Value} (l : List α) (hb : base ≤ g) (hg : Whole w g e cur) (h1 : l.length ≤ cap) (h2 : cap ≤ maxLen)
    (h3 : cur.length = cap * k) (h4 : cur.take (l.length * k) = flatG enc l) : Own enc k e w base (.slice (some ⟨g, 0, none⟩) l.length cap) l :=
  ⟨flatG_length hk l, .inr ⟨g, cap, cur.toArray, rfl, hb, hg, h1, h2, by simpa using h3, by simpa using h4⟩⟩
end Go.Proofs.YtbifnogocmgddaaGreat
namespace Go.Proofs.YtbifnogocmgddaaGreat
open Go.RowKit
section
variable {P : Program}

theorem Whole.setRow {w : World} {g : Nat} {t : TypeId} {cur : List Value} (h : Whole w g t cur) (cs : List Value) : Whole (w.setRow g cs.toArray) g t cs := setRow_heap w g _ _ t _ h
theorem grown_setRow (w : World) (g : Nat) (cs : Array Value) : w.grownBy (w.setRow g cs) (some g) :=
  ⟨rfl, rfl, rfl, by simp [World.setRow], fun k _ hk => setRow_other w g k cs (fun e => hk (by rw [e]))⟩
theorem size_setRow (w : World) (g : Nat) (cs : Array Value) : (w.setRow g cs).heap.size = w.heap.size := by simp [World.setRow]
theorem splice_nil (cur : List Value) (o : Nat) : splice cur o [] = cur := by simp [splice]

/-- what a move leaves: the block anew, all else as it was -/
structure Moved (w w' : World) (g : Nat) (t : TypeId) (cur : List Value) : Prop where
  whole : Whole w' g t cur
  grown : w.grownBy w' (some g)
  size : w'.heap.size = w.heap.size
theorem Moved.same {w : World} {g : Nat} {t : TypeId} {cur : List Value} (h : Whole w g t cur) : Moved w w g t cur := ⟨h, ⟨rfl, rfl, rfl, Nat.le_refl _, fun _ _ _ => rfl⟩, rfl⟩

/-- where cells are read from: nothing is asked of an empty row's address -/
def Srcs (w : World) (sp : Option Addr) (cs : List Value) : Prop := 0 < cs.length → ∃ ad, sp = some ad ∧ ∀ j v, cs[j]? = some v → w.cell? (ad.add j) = some v
theorem Srcs.nil (w : World) (sp : Option Addr) : Srcs w sp [] := fun h => absurd h (by simp)
theorem Srcs.of {w : World} {ad : Addr} {cs : List Value} (h : ∀ j v, cs[j]? = some v → w.cell? (ad.add j) = some v) : Srcs w (some ad) cs := fun _ => ⟨ad, rfl, h⟩
theorem Srcs.first {w : World} {sp : Option Addr} {cs : List Value} (h : Srcs w sp cs) (size n len cap : Nat) (hl : cs.length = n * size) : (Builtin.firstCells size n (.slice sp len cap)).run P w = .ok cs.toArray w := by
  by_cases h0 : 0 < cs.length
  · obtain ⟨ad, rfl, hc⟩ := h h0
    exact run_firstCells_some w size n ad len cap cs hl hc
  · have hn : cs = [] := List.eq_nil_of_length_eq_zero (by omega)
    subst hn
    cases sp with
    | none => exact run_firstCells_none w size n len cap
    | some a => exact run_firstCells_some w size n a len cap [] hl (fun j v hj => by simp at hj)

/-- cells stored into such a block -/
theorem run_put (w : World) (g o : Nat) (t : TypeId) (dp : Option Addr) (cur cs : List Value) (hg : Whole w g t cur) (hp : 0 < cs.length → dp = some ⟨g, o, none⟩) (hfit : o + cs.length ≤ cur.length) (h1 : ∀ v ∈ cs, v.oneCell' = true) :
    ∃ w', (match dp with | some a => storeCells a cs 0 | none => pure ()).run P w = .ok () w' ∧ Moved w w' g t (splice cur o cs) := by
  by_cases h0 : 0 < cs.length
  · obtain rfl := hp h0
    refine ⟨_, run_storeCells_at P g o t cs 0 cur.toArray w hg (by simpa using hfit) h1, ?_⟩
    simp only [Nat.add_zero, List.append_assoc]
    exact ⟨hg.setRow _, grown_setRow _ _ _, size_setRow _ _ _⟩
  · have hn : cs = [] := List.eq_nil_of_length_eq_zero (by omega)
    subst hn
    rw [splice_nil]
    cases dp with
    | none => exact ⟨w, rfl, Moved.same hg⟩
    | some a => exact ⟨w, rfl, Moved.same hg⟩

theorem run_copyK (w : World) (dT sT ty elem : TypeId) (i0 : TypeInfo) (k : Nat) (hu : P.underlying dT = some (.slice elem)) (hi : P.info? elem = some i0) (hk : i0.size = k) (g o dLen dCap : Nat) (dp sp : Option Addr) (sLen sCap : Nat) (t : TypeId) (cur : List Value)
    (hg : Whole w g t cur) (cs : List Value) (hn : cs.length = Nat.min sLen dLen * k) (hp : 0 < cs.length → dp = some ⟨g, o, none⟩) (hs : Srcs w sp cs) (hfit : o + cs.length ≤ cur.length) (h1 : ∀ v ∈ cs, v.oneCell' = true) :
    ∃ w', (Builtin.copy_ #[dT, sT] ty #[.slice dp dLen dCap, .slice sp sLen sCap]).run P w = .ok (goInt (Nat.min sLen dLen)) w' ∧ Moved w w' g t (splice cur o cs) := by
  obtain ⟨w', hr, hm⟩ := run_put (P := P) w g o t dp cur cs hg hp hfit h1
  refine ⟨w', ?_, hm⟩
  subst hk
  have hf := hs.first (P := P) i0.size (Nat.min sLen dLen) sLen sCap hn
  cases dp with
  | none => 
    have hw : w' = w := by simp at hr; exact hr.symm
    simp [Builtin.copy_, run_underlying hu, Builtin.lenOf, sizeOf, typeInfo, hi, hf, hw]
  | some a => simp [Builtin.copy_, run_underlying hu, Builtin.lenOf, sizeOf, typeInfo, hi, hf, hr]

theorem run_roomK (w : World) (T ty e : TypeId) (i0 : TypeInfo) (k : Nat) (hu : P.underlying T = some (.slice e)) (hi : P.info? e = some i0) (hk : i0.size = k) (g i cap : Nat) (sp : Option Addr) (m mc : Nat) (t : TypeId) (cur : List Value)
    (hg : Whole w g t cur) (cs : List Value) (hn : cs.length = m * k) (hs : Srcs w sp cs) (hroom : i + m ≤ cap) (hfit : i * k + cs.length ≤ cur.length) (h1 : ∀ v ∈ cs, v.oneCell' = true) :
    ∃ w', (Builtin.append_ #[T, T] ty #[.slice (some ⟨g, 0, none⟩) i cap, .slice sp m mc]).run P w = .ok (.slice (some ⟨g, 0, none⟩) (i + m) cap) w' ∧ Moved w w' g t (splice cur (i * k) cs) := by
  subst hk
  obtain ⟨w', hr, hm⟩ := run_put (P := P) w g (i * i0.size) t (some ⟨g, i * i0.size, none⟩) cur cs hg (fun _ => rfl) hfit h1
  refine ⟨w', ?_, hm⟩
  have hf := hs.first (P := P) i0.size m m mc hn
  have hadd : (⟨g, 0, none⟩ : Addr).add (i * i0.size) = ⟨g, i * i0.size, none⟩ := by rw [Addr.add_lit, Nat.zero_add]
  simp only at hr
  simp [Builtin.append_, run_underlying hu, sizeOf, typeInfo, hi, Builtin.lenOf, hroom, hf, hadd, hr]

theorem run_clearK (w : World) (T ty e : TypeId) (z : Value) (k : Nat) (hu : P.underlying T = some (.slice e)) (hz : ∀ w, (zeroValue e).run P w = .ok z w) (hk : z.cells.size = k) (hz1 : ∀ v ∈ z.cells.toList, v.oneCell' = true) (g o n cap : Nat) (dp : Option Addr) (t : TypeId) (cur : List Value)
    (hg : Whole w g t cur) (hp : 0 < n → dp = some ⟨g, o, none⟩) (hfit : o + n * k ≤ cur.length) :
    ∃ w' zs, (Builtin.clear_ #[T] ty #[.slice dp n cap]).run P w = .ok (.tuple #[]) w' ∧ zs.length = n * k ∧ Moved w w' g t (splice cur o zs) := by
  by_cases h0 : n = 0
  · subst h0
    refine ⟨w, [], ?_, by simp, by rw [splice_nil]; exact Moved.same hg⟩
    cases dp <;> simp [Builtin.clear_, run_underlying hu]
  · obtain rfl := hp (by omega)
    have hzl : (Builtin.zeroCells z.cells n).toList.length = n * k := by rw [Array.length_toList, size_zeroCells, hk]
    have h1 : ∀ v ∈ (Builtin.zeroCells z.cells n).toList, v.oneCell' = true := by
      intro v hv
      simp only [Builtin.zeroCells, Array.toList_map, List.mem_map, Array.toList_range, List.mem_range] at hv
      obtain ⟨j, hj, rfl⟩ := hv
      have hpos : 0 < z.cells.size := by
        rcases Nat.eq_zero_or_pos z.cells.size with h | h
        · rw [h] at hj; simp at hj
        · exact h
      have hlt := Nat.mod_lt j hpos
      rw [getElem!_pos z.cells _ hlt]
      exact hz1 _ (by simp)
    obtain ⟨w', hr, hm⟩ := run_put (P := P) w g o t (some ⟨g, o, none⟩) cur _ hg (fun _ => rfl) (by rw [hzl]; exact hfit) h1
    refine ⟨w', _, ?_, hzl, hm⟩
    obtain ⟨n', rfl⟩ : ∃ n', n = n' + 1 := ⟨n - 1, by omega⟩
    simp only at hr
    simp [Builtin.clear_, run_underlying hu, hz, hr]

/-- append(s[:i], make(S, n)...) where there is no room -/
theorem run_zerosK (w : World) (T tn ty e : TypeId) (i0 : TypeInfo) (z : Value) (k bytes : Nat) (kq kn : IntKind) (hu : P.underlying T = some (.slice e)) (htn : P.underlying tn = some (.int kn)) (hi : P.info? e = some i0) (hz : i0.zero = some z) (hk : i0.size = k) (hk0 : 0 < k) (hb : i0.bytes = bytes) (hzs : z.cells.size = k)
    (ap : Option Addr) (i cap n : Nat) (olds : List Value) (ho : olds.length = i * k) (hs : Srcs w ap olds) (h0 : 0 < n) (hg : cap < i + n) (h63 : i + n ≤ maxLen) (hfit : ((i + n) + (i + n) / 4 + 192) * bytes ≤ 281474976710656) :
    ∃ w' c cur, (Builtin.append_ #[T, tn] ty #[.slice ap i cap, .int kq n]).run P w = .ok (.slice (some ⟨w.heap.size, 0, none⟩) (i + n) c) w' ∧ Whole w' w.heap.size e cur ∧ cur.length = c * k ∧ cur.take (i * k) = olds ∧ i + n ≤ c ∧ c ≤ maxLen ∧ w.grownBy w' none ∧ w'.heap.size = w.heap.size + 1 := by
  subst hk hb
  have h48 := growslice_fits_wide hg hfit
  have hge := grownCap_ge w (i + n) cap e
  have hcm : grownCap w (i + n) cap e ≤ maxLen := grownCap_le_maxLen w (i + n) cap e h63
  have hf : (Builtin.firstCells i0.size i (.slice ap i cap)).run P w.drew = .ok olds.toArray w.drew := (show Srcs w.drew ap olds from hs).first (P := P) i0.size i i cap ho
  have hr := Lib.run_append_grow_zeros (P := P) w T tn ty e i0 z kq kn hu htn hi hz ap i cap olds hf n h0 hk0 hg (by unfold maxLen at h63; omega)
    (by have : n * i0.bytes ≤ (i + n + (i + n) / 4 + 192) * i0.bytes := Nat.mul_le_mul_right _ (by omega)
        omega) h48
  refine ⟨_, _, (olds.toArray ++ Builtin.zeroCells z.cells n ++ Builtin.zeroCells z.cells (grownCap w (i + n) cap e - (i + n))).toList, hr, ?_, ?_, ?_, hge, hcm, ⟨rfl, rfl, rfl, by simp, fun j hj hn => (World.grownBy_alloc w.drew _ none).block j hj hn⟩, by simp⟩
  · unfold Whole
    rw [Array.toArray_toList]
    exact heap_alloc_new w.drew _
  · simp only [Array.length_toList, Array.size_append, List.size_toArray, size_zeroCells, hzs, ho, ← Nat.add_mul]
    congr 1
    omega
  · simp only [Array.toList_append, List.append_assoc]
    rw [← ho]
    exact List.take_left

/-- the operations, for a walk -/
theorem wp_call2 {w : World} {o : Oper} {a : Act} {K1 : Act → World → Prop} {Q : Exit → Act → World → Prop} (b : Builtin) (hb : b = .copy ∨ b = .append) (d s : Operand) (t t' : TypeId)
    (ho : o.op = .call { callee := .builtin b, args := #[d, s], argTypes := #[t, t'] }) (v u : Value) (hd : a.eval d = v) (hs : a.eval s = u) {v' : Value} {w' : World}
    (hr : (match b with | .copy => Builtin.copy_ #[t, t'] o.type #[v, u] | _ => Builtin.append_ #[t, t'] o.type #[v, u]).run P w = .ok v' w') (h : K1 (a.put o.dst v') w') : o.wp P a w K1 Q := by
  unfold Oper.wp execOp
  rcases hb with rfl | rfl <;>
  · simp only at hr
    simp only [ho, resolve, invoke, builtin, Sem.run_bind, Sem.run_pure, Result.andThen_ok, List.map_toArray, List.map_cons, List.map_nil, hd, hs, hr]
    exact h
theorem wp_clearK {w : World} {o : Oper} {a : Act} {K1 : Act → World → Prop} {Q : Exit → Act → World → Prop} (d : Operand) (t : TypeId)
    (ho : o.op = .call { callee := .builtin .clear, args := #[d], argTypes := #[t] }) (v : Value) (hd : a.eval d = v) {v' : Value} {w' : World}
    (hr : (Builtin.clear_ #[t] o.type #[v]).run P w = .ok v' w') (h : K1 (a.put o.dst v') w') : o.wp P a w K1 Q := by
  unfold Oper.wp execOp
  simp only [ho, resolve, invoke, builtin, Sem.run_bind, Sem.run_pure, Result.andThen_ok, List.map_toArray, List.map_cons, List.map_nil, hd, hr]
  exact h
end
end Go.Proofs.YtbifnogocmgddaaGreat
