/- Frames as plain data: what is laid, what is read; the one undoes the other. -/
import Derived.Test.YtiijcikdlemndaaChk
import Derived.Test.YtiijcikdlemndaaRText
import Derived.Test.YtiijcikdlemndaaRPutText
import Derived.Test.YtiijcikdlemndaaRNums
import Derived.Test.YtiijcikdlemndaaOpn
namespace Go.Proofs.Ytiijcikdlemndaa
open Go.RowKit

/-- what is not read yet; none: something was not as it has to be -/
abbrev Rest := Option (List UInt8)
def rdN : Rest → Int × Rest
  | none => (0, none)
  | some l => if (numAns l).2.2 = 0 then (((numAns l).1 : Int), some (l.drop (numAns l).2.1)) else (0, none)
def rdT : Rest → List UInt8 × Rest
  | none => ([], none)
  | some l => if (textAns l).2.2 = 0 then ((textAns l).1, some (l.drop (textAns l).2.1)) else ([], none)

theorem rdN_enc {n : Nat} (h : n < 9223372036854775808) (s : List UInt8) : rdN (some (enc n ++ s)) = ((n : Int), some s) := by
  rw [rdN, numAns_enc h, if_pos rfl]
  simp
theorem rdN_once {S : Rest} {n : Int} {r : List UInt8} (h : rdN S = (n, some r)) : ∃ k : Nat, n = (k : Int) ∧ k < 9223372036854775808 ∧ S = some (enc k ++ r) := by
  cases S with
  | none => simp [rdN] at h
  | some l =>
    rw [rdN] at h
    split at h
    · rename_i h0
      obtain ⟨m, u, e⟩ : ∃ m u, numAns l = (m, u, 0) := ⟨_, _, Prod.ext rfl (Prod.ext rfl h0)⟩
      obtain ⟨h1, h2, _, s, h3⟩ := numAns_once e
      rw [e] at h
      simp only [Prod.mk.injEq, Option.some.injEq] at h
      refine ⟨m, h.1.symm, enc_lt (by omega), ?_⟩
      rw [← h.2, h3, h1, List.drop_left]
    · simp at h
theorem rdN_lt (S : Rest) : 0 ≤ (rdN S).1 ∧ (rdN S).1 < 9223372036854775808 := by
  rcases hh : rdN S with ⟨n, _ | r⟩
  · cases S with
    | none => simp [rdN] at hh; simp [← hh]
    | some l => rw [rdN] at hh; split at hh <;> simp at hh; simp [← hh]
  · obtain ⟨k, rfl, hk, _⟩ := rdN_once hh
    simp only
    omega
theorem textAns_enc {t : List UInt8} (h : t.length ≤ 65536) (s : List UInt8) : textAns (encT t ++ s) = (t, (encT t).length, 0) := by
  have e : encT t ++ s = enc t.length ++ (t ++ s) := by simp [encT]
  rw [textAns, e, numAns_enc (by omega)]
  simp only
  rw [if_neg (by simp), if_neg (by omega), if_neg (by simp), List.drop_left, List.take_left, encT, List.length_append]
theorem rdT_enc {t : List UInt8} (h : t.length ≤ 65536) (s : List UInt8) : rdT (some (encT t ++ s)) = (t, some s) := by
  rw [rdT, textAns_enc h, if_pos rfl]
  simp
theorem rdT_once {S : Rest} {t r : List UInt8} (h : rdT S = (t, some r)) : t.length ≤ 65536 ∧ S = some (encT t ++ r) := by
  cases S with
  | none => simp [rdT] at h
  | some l =>
    rw [rdT] at h
    split at h
    · rename_i h0
      simp only [Prod.mk.injEq, Option.some.injEq] at h
      obtain ⟨rfl, rfl⟩ := h
      unfold textAns at h0 ⊢
      by_cases h1 : (numAns l).2.2 = 0
      · obtain ⟨m, u, e⟩ : ∃ m u, numAns l = (m, u, 0) := ⟨_, _, Prod.ext rfl (Prod.ext rfl h1)⟩
        obtain ⟨k1, k2, _, s, k3⟩ := numAns_once e
        rw [e] at h0 ⊢
        simp only at h0 ⊢
        rw [if_neg (by simp)] at h0 ⊢
        by_cases h2 : m > 65536
        · rw [if_pos h2] at h0; simp at h0
        · rw [if_neg h2] at h0 ⊢
          by_cases h3 : l.length - u < m
          · rw [if_pos h3] at h0; simp at h0
          · rw [if_neg h3]
            simp only
            rw [k3, k1] at h3 ⊢
            simp only [List.length_append, Nat.add_sub_cancel_left, Nat.not_lt] at h3
            rw [List.drop_left]
            refine ⟨by simp; omega, ?_⟩
            have e1 : (s.take m).length = m := by simp; omega
            rw [← List.drop_drop, List.drop_left, encT, e1, List.append_assoc, List.take_append_drop]
      · rw [if_pos h1] at h0
        exact absurd h0 h1
    · simp at h
theorem rdT_len (S : Rest) : (rdT S).1.length ≤ 65536 := by
  rcases hh : rdT S with ⟨t, _ | r⟩
  · cases S with
    | none => simp [rdT] at hh; simp [hh]
    | some l => rw [rdT] at hh; split at hh <;> simp at hh; simp [hh]
  · exact (rdT_once hh).1
/-- behind each reading there are no more bytes than before -/
theorem rdN_shrink {S : Rest} {r : List UInt8} (h : (rdN S).2 = some r) : ∃ l, S = some l ∧ r.length ≤ l.length := by
  obtain ⟨k, _, _, e⟩ := rdN_once (n := (rdN S).1) (r := r) (by rw [← h])
  exact ⟨_, e, by simp⟩
theorem rdT_shrink {S : Rest} {r : List UInt8} (h : (rdT S).2 = some r) : ∃ l, S = some l ∧ r.length ≤ l.length := by
  obtain ⟨_, e⟩ := rdT_once (t := (rdT S).1) (r := r) (by rw [← h])
  exact ⟨_, e, by simp⟩

/-! ### so many of them -/
section
variable {α : Type} (one : Rest → α × Rest)
def repS : Nat → Rest → Rest
  | 0, S => S
  | i + 1, S => (one (repS i S)).2
def repL : Nat → Rest → List α
  | 0, _ => []
  | i + 1, S => repL i S ++ [(one (repS one i S)).1]
theorem repL_len (S : Rest) : ∀ i, (repL one i S).length = i
  | 0 => rfl
  | i + 1 => by rw [repL, List.length_append, repL_len S i]; rfl
/-- how many, at most so many -/
def rdCount (most : Nat) (S : Rest) : Int × Rest := if (rdN S).1 > (most : Int) then (0, none) else rdN S
def rdList (most : Nat) (S : Rest) : List α × Rest := (repL one (rdCount most S).1.toNat (rdCount most S).2, repS one (rdCount most S).1.toNat (rdCount most S).2)
theorem rdCount_le (most : Nat) (S : Rest) : 0 ≤ (rdCount most S).1 ∧ (rdCount most S).1 ≤ most := by
  unfold rdCount
  have := rdN_lt S
  split
  · simp
  · exact ⟨this.1, by omega⟩
theorem rdList_len (most : Nat) (S : Rest) : (rdList one most S).1.length ≤ most := by
  have := rdCount_le most S
  rw [rdList, repL_len]
  omega
variable (hone : ∀ S, (one S).2 ≠ none → S ≠ none)
include hone in
theorem repS_none (i : Nat) : repS one i none = none := by
  induction i with
  | zero => rfl
  | succ i ih =>
    rw [repS, ih]
    cases h : (one none).2 with
    | none => rfl
    | some r => exact absurd rfl (hone none (by rw [h]; simp))
include hone in
theorem repS_add (i j : Nat) {S : Rest} (h : repS one (i + j) S ≠ none) : repS one i S ≠ none := by
  induction j with
  | zero => exact h
  | succ j ih => exact ih (hone _ h)
variable {one} {f : α → List UInt8}
theorem rep_enc : ∀ (i : Nat) (l : List α) (s : List UInt8), (∀ x ∈ l, ∀ s, one (some (f x ++ s)) = (x, some s)) → i ≤ l.length → repS one i (some (l.flatMap f ++ s)) = some ((l.drop i).flatMap f ++ s) ∧ repL one i (some (l.flatMap f ++ s)) = l.take i
  | 0, l, s, _, _ => ⟨by simp [repS], by simp [repL]⟩
  | i + 1, l, s, ho, h => by
    obtain ⟨h1, h2⟩ := rep_enc i l s ho (by omega)
    have hlt : i < l.length := h
    have e := List.drop_eq_getElem_cons hlt
    have h3 := ho l[i] (List.getElem_mem hlt) ((l.drop (i + 1)).flatMap f ++ s)
    rw [← List.append_assoc] at h3
    constructor
    · rw [repS, h1, e, List.flatMap_cons, h3]
    · rw [repL, h1, h2, e, List.flatMap_cons, h3, List.take_add_one, List.getElem?_eq_getElem hlt]
      rfl
/-- how many, and each of them -/
def listB (f : α → List UInt8) (l : List α) : List UInt8 := enc l.length ++ l.flatMap f
theorem rdList_enc (most : Nat) (hm : most < 9223372036854775808) (l : List α) (s : List UInt8) (ho : ∀ x ∈ l, ∀ s, one (some (f x ++ s)) = (x, some s)) (hl : l.length ≤ most) : rdList one most (some (listB f l ++ s)) = (l, some s) := by
  have e : rdCount most (some (listB f l ++ s)) = ((l.length : Int), some (l.flatMap f ++ s)) := by
    unfold rdCount listB
    rw [List.append_assoc, rdN_enc (by omega), if_neg (by simp only; omega)]
  obtain ⟨h1, h2⟩ := rep_enc l.length l s ho (Nat.le_refl _)
  rw [rdList, e]
  simp only [Int.toNat_natCast]
  rw [h1, h2]
  simp
end

/-! ### messages -/
structure Msg where
  kind : Int
  frm : Int
  to : Int
  epoch : Int
  a : Int
  b : Int
  c : Int
  body : List UInt8
instance : DecidableEq Msg := fun x y => decidable_of_iff (x.kind = y.kind ∧ x.frm = y.frm ∧ x.to = y.to ∧ x.epoch = y.epoch ∧ x.a = y.a ∧ x.b = y.b ∧ x.c = y.c ∧ x.body = y.body)
  ⟨fun h => by cases x; cases y; simp only at h; obtain ⟨rfl, rfl, rfl, rfl, rfl, rfl, rfl, rfl⟩ := h; rfl, fun h => by subst h; simp⟩
def zeroM : Msg := ⟨0, 0, 0, 0, 0, 0, 0, []⟩
def Msg.nums (m : Msg) : List Int := [m.kind, m.frm, m.to, m.epoch, m.a, m.b, m.c]
def soundM (m : Msg) : Prop := (1 ≤ m.kind ∧ m.kind ≤ 20) ∧ (0 ≤ m.frm ∧ m.frm ≤ 255) ∧ (0 ≤ m.to ∧ m.to ≤ 255) ∧ 0 ≤ m.epoch ∧ 0 ≤ m.a ∧ 0 ≤ m.b ∧ 0 ≤ m.c ∧ m.body.length ≤ 65536
instance (m : Msg) : Decidable (soundM m) := by unfold soundM; exact inferInstance
def msgIn (m : Msg) : List UInt8 := encs m.nums ++ encT m.body
def encodeAns (m : Msg) : List UInt8 × Int := if soundM m then (sealed (msgIn m), 0) else ([], 2)
def rdMsg (S : Rest) : Msg × Rest :=
  let k := rdN S; let f := rdN k.2; let t := rdN f.2; let e := rdN t.2; let a := rdN e.2; let b := rdN a.2; let c := rdN b.2; let x := rdT c.2
  (⟨k.1, f.1, t.1, e.1, a.1, b.1, c.1, x.1⟩, x.2)
def decodeAns (l : List UInt8) : Msg × Int :=
  if (openAns l).2 = 0 ∧ (rdMsg (some (openAns l).1)).2 = some [] ∧ soundM (rdMsg (some (openAns l).1)).1 then ((rdMsg (some (openAns l).1)).1, 0) else (zeroM, 2)
theorem msgIn_eq (m : Msg) (s : List UInt8) : msgIn m ++ s = enc m.kind.toNat ++ (enc m.frm.toNat ++ (enc m.to.toNat ++ (enc m.epoch.toNat ++ (enc m.a.toNat ++ (enc m.b.toNat ++ (enc m.c.toNat ++ (encT m.body ++ s))))))) := by
  simp [msgIn, encs, Msg.nums]
def fitsM (m : Msg) : Prop := m.kind < 9223372036854775808 ∧ m.frm < 9223372036854775808 ∧ m.to < 9223372036854775808 ∧ m.epoch < 9223372036854775808 ∧ m.a < 9223372036854775808 ∧ m.b < 9223372036854775808 ∧ m.c < 9223372036854775808
theorem rdMsg_enc {m : Msg} (hs : soundM m) (hf : fitsM m) (s : List UInt8) : rdMsg (some (msgIn m ++ s)) = (m, some s) := by
  obtain ⟨⟨h1, _⟩, ⟨h2, _⟩, ⟨h3, _⟩, h4, h5, h6, h7, h8⟩ := hs
  obtain ⟨f1, f2, f3, f4, f5, f6, f7⟩ := hf
  have key : ∀ (n : Int) (s : List UInt8), 0 ≤ n → n < 9223372036854775808 → rdN (some (enc n.toNat ++ s)) = (n, some s) := fun n s h0 h1 => by
    rw [rdN_enc (by omega)]
    simp only [Prod.mk.injEq, and_true]
    omega
  rw [msgIn_eq, rdMsg]
  simp only [key _ _ (show 0 ≤ m.kind by omega) f1, key _ _ h2 f2, key _ _ h3 f3, key _ _ h4 f4, key _ _ h5 f5, key _ _ h6 f6, key _ _ h7 f7, rdT_enc h8]
theorem rdMsg_once {l R : List UInt8} {m : Msg} (h : rdMsg (some l) = (m, some R)) : l = msgIn m ++ R ∧ fitsM m := by
  unfold rdMsg at h
  simp only [Prod.mk.injEq] at h
  obtain ⟨rfl, h⟩ := h
  obtain ⟨_, e8⟩ := rdT_once (t := (rdT _).1) (Prod.ext rfl h)
  obtain ⟨k7, n7, l7, e7⟩ := rdN_once (n := (rdN _).1) (Prod.ext rfl e8)
  obtain ⟨k6, n6, l6, e6⟩ := rdN_once (n := (rdN _).1) (Prod.ext rfl e7)
  obtain ⟨k5, n5, l5, e5⟩ := rdN_once (n := (rdN _).1) (Prod.ext rfl e6)
  obtain ⟨k4, n4, l4, e4⟩ := rdN_once (n := (rdN _).1) (Prod.ext rfl e5)
  obtain ⟨k3, n3, l3, e3⟩ := rdN_once (n := (rdN _).1) (Prod.ext rfl e4)
  obtain ⟨k2, n2, l2, e2⟩ := rdN_once (n := (rdN _).1) (Prod.ext rfl e3)
  obtain ⟨k1, n1, l1, e1⟩ := rdN_once (n := (rdN _).1) (Prod.ext rfl e2)
  constructor
  · rw [msgIn_eq]
    simp only [n1, n2, n3, n4, n5, n6, n7, Int.toNat_natCast]
    exact Option.some.inj e1
  · unfold fitsM
    simp only [n1, n2, n3, n4, n5, n6, n7]
    omega
/-- what was laid is read as it was -/
theorem decode_encode {m : Msg} (hs : soundM m) (hf : fitsM m) : decodeAns (sealed (msgIn m)) = (m, 0) := by
  have h := rdMsg_enc hs hf []
  rw [List.append_nil] at h
  rw [decodeAns, openAns_sealed]
  simp only [h]
  rw [if_pos ⟨trivial, trivial, hs⟩]

/-! ### spans, changes -/
def spanB (s : K × K) : List UInt8 := encT s.1.data.toList ++ encT s.2.data.toList
def chgB (c : Chg) : List UInt8 := enc c.kind.toNat ++ (encT c.key.data.toList ++ encT c.val.data.toList)
def rdSpan (S : Rest) : (K × K) × Rest := let a := rdT S; let b := rdT a.2; ((strB a.1, strB b.1), b.2)
def rdChg (S : Rest) : Chg × Rest := let k := rdN S; let a := rdT k.2; let b := rdT a.2; (⟨k.1, strB a.1, strB b.1⟩, b.2)
theorem strB_data (k : K) : strB k.data.toList = k := by cases k; rfl
theorem rdSpan_enc {s : K × K} (h : s.1.size ≤ 17 ∧ s.2.size ≤ 17) (r : List UInt8) : rdSpan (some (spanB s ++ r)) = (s, some r) := by
  have e : ∀ k : K, k.data.toList.length = k.size := fun k => by simp
  rw [spanB, List.append_assoc, rdSpan]
  simp only [rdT_enc (show s.1.data.toList.length ≤ 65536 by rw [e]; omega), rdT_enc (show s.2.data.toList.length ≤ 65536 by rw [e]; omega), strB_data]
theorem rdChg_enc {c : Chg} (h : checkAns c = 0) (r : List UInt8) : rdChg (some (chgB c ++ r)) = (c, some r) := by
  have e : ∀ k : K, k.data.toList.length = k.size := fun k => by simp
  have h3 : (c.kind = 1 ∨ c.kind = 2 ∨ c.kind = 3) ∧ c.key.size ≤ 64 ∧ c.val.size ≤ 64 := by
    unfold checkAns at h
    split at h
    · split at h
      · cases h
      · exact ⟨.inl (by assumption), by omega, by omega⟩
    · split at h
      · split at h
        · cases h
        · exact ⟨.inr (.inl (by assumption)), by omega, by omega⟩
      · split at h
        · split at h
          · cases h
          · exact ⟨.inr (.inr (by assumption)), by omega, by omega⟩
        · cases h
  obtain ⟨k, x, y⟩ := c
  simp only at h3
  rw [chgB, List.append_assoc, List.append_assoc, rdChg]
  simp only [rdN_enc (show k.toNat < 9223372036854775808 by omega), rdT_enc (show x.data.toList.length ≤ 65536 by rw [e]; omega), rdT_enc (show y.data.toList.length ≤ 65536 by rw [e]; omega), strB_data]
  congr 2
  omega
theorem rdSpan_none {S : Rest} (h : (rdSpan S).2 ≠ none) : S ≠ none := by rintro rfl; exact h rfl
theorem rdChg_none {S : Rest} (h : (rdChg S).2 ≠ none) : S ≠ none := by rintro rfl; exact h rfl
theorem rdN_none {S : Rest} (h : (rdN S).2 ≠ none) : S ≠ none := by rintro rfl; exact h rfl
theorem rdSpan_len (S : Rest) : (rdSpan S).1.1.size ≤ 65536 ∧ (rdSpan S).1.2.size ≤ 65536 := ⟨by simpa [rdSpan, strB, ByteArray.size] using rdT_len S, by simpa [rdSpan, strB, ByteArray.size] using rdT_len (rdT S).2⟩
theorem rdChg_len (S : Rest) : (rdChg S).1.key.size ≤ 65536 ∧ (rdChg S).1.val.size ≤ 65536 := ⟨by simpa [rdChg, strB, ByteArray.size] using rdT_len (rdN S).2, by simpa [rdChg, strB, ByteArray.size] using rdT_len (rdT (rdN S).2).2⟩
theorem repL_all {α : Type} {one : Rest → α × Rest} {p : α → Prop} (h : ∀ S, p (one S).1) (S : Rest) : ∀ i, ∀ x ∈ repL one i S, p x
  | 0, x, hx => by simp [repL] at hx
  | i + 1, x, hx => by
    rw [repL, List.mem_append] at hx
    rcases hx with hx | hx
    · exact repL_all h S i x hx
    · simp only [List.mem_singleton] at hx; rw [hx]; exact h _
theorem allAns_all : ∀ {l : List Chg}, allAns l = 0 → ∀ c ∈ l, checkAns c = 0
  | [], _, c, hc => by simp at hc
  | x :: r, h, c, hc => by
    rw [allAns] at h
    split at h
    · rcases List.mem_cons.1 hc with rfl | hc
      · assumption
      · exact allAns_all h c hc
    · exact absurd h (by assumption)

/-! ### transactions -/
structure Txn where
  read : Int
  reads : List (K × K)
  chgs : List Chg
instance : DecidableEq Txn := fun x y => decidable_of_iff (x.read = y.read ∧ x.reads = y.reads ∧ x.chgs = y.chgs) ⟨fun h => by cases x; cases y; simp only at h; obtain ⟨rfl, rfl, rfl⟩ := h; rfl, fun h => by subst h; simp⟩
def zeroT : Txn := ⟨0, [], []⟩
def okSpan (s : K × K) : Prop := s.1.size ≤ 17 ∧ s.2.size ≤ 17 ∧ ¬ s.2 < s.1
instance (s : K × K) : Decidable (okSpan s) := by unfold okSpan; exact inferInstance
def soundT (t : Txn) : Prop := 0 ≤ t.read ∧ t.reads.length ≤ 24 ∧ (∀ s ∈ t.reads, okSpan s) ∧ t.chgs.length ≤ 24 ∧ allAns t.chgs = 0
instance (t : Txn) : Decidable (soundT t) := by unfold soundT; exact inferInstance
def txnB (t : Txn) : List UInt8 := enc t.read.toNat ++ (listB spanB t.reads ++ listB chgB t.chgs)
def putTxn (t : Txn) : List UInt8 × Int := if soundT t then (txnB t, 0) else ([], 2)
def rdTxn (S : Rest) : Txn × Rest := let a := rdN S; let b := rdList rdSpan 24 a.2; let c := rdList rdChg 24 b.2; (⟨a.1, b.1, c.1⟩, c.2)
def getTxn (l : List UInt8) : Txn × Int := if (rdTxn (some l)).2 = some [] ∧ soundT (rdTxn (some l)).1 then ((rdTxn (some l)).1, 0) else (zeroT, 2)
theorem get_putT {t : Txn} (hs : soundT t) (hf : t.read < 9223372036854775808) : getTxn (txnB t) = (t, 0) := by
  have hs0 := hs
  obtain ⟨h1, h2, h3, h4, h5⟩ := hs
  have e1 := rdN_enc (n := t.read.toNat) (by omega) (listB spanB t.reads ++ listB chgB t.chgs)
  have e2 := rdList_enc (one := rdSpan) (f := spanB) 24 (by omega) t.reads (listB chgB t.chgs) (fun x hx s => rdSpan_enc ⟨(h3 x hx).1, (h3 x hx).2.1⟩ s) h2
  have e3 := rdList_enc (one := rdChg) (f := chgB) 24 (by omega) t.chgs [] (fun x hx s => rdChg_enc (allAns_all h5 x hx) s) h4
  rw [List.append_nil] at e3
  have e : rdTxn (some (txnB t)) = (t, some []) := by
    rw [rdTxn, txnB]
    simp only [e1, e2, e3, Int.toNat_of_nonneg h1]
  rw [getTxn, e, if_pos ⟨rfl, hs0⟩]

/-! ### batches -/
structure Bat where
  prev : Int
  version : Int
  known : Int
  chgs : List Chg
instance : DecidableEq Bat := fun x y => decidable_of_iff (x.prev = y.prev ∧ x.version = y.version ∧ x.known = y.known ∧ x.chgs = y.chgs) ⟨fun h => by cases x; cases y; simp only at h; obtain ⟨rfl, rfl, rfl, rfl⟩ := h; rfl, fun h => by subst h; simp⟩
def zeroB : Bat := ⟨0, 0, 0, []⟩
def soundB (x : Bat) : Prop := (0 ≤ x.prev ∧ 0 ≤ x.version ∧ 0 ≤ x.known) ∧ x.chgs.length ≤ 4096 ∧ allAns x.chgs = 0
instance (x : Bat) : Decidable (soundB x) := by unfold soundB; exact inferInstance
def batB (x : Bat) : List UInt8 := encs [x.prev, x.version, x.known] ++ listB chgB x.chgs
def putBat (x : Bat) : List UInt8 × Int := if soundB x then (batB x, 0) else ([], 2)
def rdBat (S : Rest) : Bat × Rest := let a := rdN S; let b := rdN a.2; let c := rdN b.2; let d := rdList rdChg 4096 c.2; (⟨a.1, b.1, c.1, d.1⟩, d.2)
def getBat (l : List UInt8) : Bat × Int := if (rdBat (some l)).2 = some [] ∧ soundB (rdBat (some l)).1 then ((rdBat (some l)).1, 0) else (zeroB, 2)
theorem get_putB {x : Bat} (hs : soundB x) (hf : x.prev < 9223372036854775808 ∧ x.version < 9223372036854775808 ∧ x.known < 9223372036854775808) : getBat (batB x) = (x, 0) := by
  have hs0 := hs
  obtain ⟨⟨h1, h2, h3⟩, h4, h5⟩ := hs
  obtain ⟨f1, f2, f3⟩ := hf
  have e1 := rdN_enc (n := x.prev.toNat) (by omega) (enc x.version.toNat ++ (enc x.known.toNat ++ listB chgB x.chgs))
  have e2 := rdN_enc (n := x.version.toNat) (by omega) (enc x.known.toNat ++ listB chgB x.chgs)
  have e3 := rdN_enc (n := x.known.toNat) (by omega) (listB chgB x.chgs)
  have e4 := rdList_enc (one := rdChg) (f := chgB) 4096 (by omega) x.chgs [] (fun c hc s => rdChg_enc (allAns_all h5 c hc) s) h4
  rw [List.append_nil] at e4
  have eb : batB x = enc x.prev.toNat ++ (enc x.version.toNat ++ (enc x.known.toNat ++ listB chgB x.chgs)) := by simp [batB, encs]
  have e : rdBat (some (batB x)) = (x, some []) := by
    rw [rdBat, eb]
    simp only [e1, e2, e3, e4, Int.toNat_of_nonneg h1, Int.toNat_of_nonneg h2, Int.toNat_of_nonneg h3]
  rw [getBat, e, if_pos ⟨rfl, hs0⟩]

/-! ### states -/
structure Sta where
  gen : Int
  epoch : Int
  recd : Int
  chests : List Int
instance : DecidableEq Sta := fun x y => decidable_of_iff (x.gen = y.gen ∧ x.epoch = y.epoch ∧ x.recd = y.recd ∧ x.chests = y.chests) ⟨fun h => by cases x; cases y; simp only at h; obtain ⟨rfl, rfl, rfl, rfl⟩ := h; rfl, fun h => by subst h; simp⟩
def zeroS : Sta := ⟨0, 0, 0, []⟩
def soundS (x : Sta) : Prop := (0 ≤ x.gen ∧ 0 ≤ x.epoch ∧ 0 ≤ x.recd) ∧ x.chests.length ≤ 16 ∧ ∀ n ∈ x.chests, 0 ≤ n ∧ n ≤ 255
instance (x : Sta) : Decidable (soundS x) := by unfold soundS; exact inferInstance
def staB (x : Sta) : List UInt8 := encs [x.gen, x.epoch, x.recd, (x.chests.length : Int)] ++ encs x.chests
def putSta (x : Sta) : List UInt8 × Int := if soundS x then (staB x, 0) else ([], 2)
def rdSta (S : Rest) : Sta × Rest := let a := rdN S; let b := rdN a.2; let c := rdN b.2; let d := rdList rdN 16 c.2; (⟨a.1, b.1, c.1, d.1⟩, d.2)
def getSta (l : List UInt8) : Sta × Int := if (rdSta (some l)).2 = some [] ∧ soundS (rdSta (some l)).1 then ((rdSta (some l)).1, 0) else (zeroS, 2)
theorem get_putS {x : Sta} (hs : soundS x) (hf : x.gen < 9223372036854775808 ∧ x.epoch < 9223372036854775808 ∧ x.recd < 9223372036854775808) : getSta (staB x) = (x, 0) := by
  have hs0 := hs
  obtain ⟨⟨h1, h2, h3⟩, h4, h5⟩ := hs
  obtain ⟨f1, f2, f3⟩ := hf
  have e1 := rdN_enc (n := x.gen.toNat) (by omega) (enc x.epoch.toNat ++ (enc x.recd.toNat ++ listB (fun n : Int => enc n.toNat) x.chests))
  have e2 := rdN_enc (n := x.epoch.toNat) (by omega) (enc x.recd.toNat ++ listB (fun n : Int => enc n.toNat) x.chests)
  have e3 := rdN_enc (n := x.recd.toNat) (by omega) (listB (fun n : Int => enc n.toNat) x.chests)
  have e4 := rdList_enc (one := rdN) (f := fun n : Int => enc n.toNat) 16 (by omega) x.chests [] (fun n hn s => by
    have := h5 n hn
    rw [rdN_enc (by omega)]
    simp only [Prod.mk.injEq, and_true]
    omega) h4
  rw [List.append_nil] at e4
  have eb : staB x = enc x.gen.toNat ++ (enc x.epoch.toNat ++ (enc x.recd.toNat ++ listB (fun n : Int => enc n.toNat) x.chests)) := by simp [staB, encs, listB]
  have e : rdSta (some (staB x)) = (x, some []) := by
    rw [rdSta, eb]
    simp only [e1, e2, e3, e4, Int.toNat_of_nonneg h1, Int.toNat_of_nonneg h2, Int.toNat_of_nonneg h3]
  rw [getSta, e, if_pos ⟨rfl, hs0⟩]
end Go.Proofs.Ytiijcikdlemndaa
