/- What the small functions of the span layer's reference answer: contracts, each for every argument and every world. Slices of spans and of keys in memory; what the reference's functions over them answer. The reference's ends: each key once, rising: what Insert and ends answer. A region whose operations may come in more than one order, walked in one order that is laid down beforehand: whatever yields the same in every world of a kind is taken when it comes up, and whatever else can come up alone is carried out. The reference's ends of spans. Slices of spans that a call makes itself: what they own, how they are read, what a sort leaves. Two spans held against each other; what two lists of spans the same means for the reference. -/
import Derived.Test.YtgppgecglkellaaGreatRows
import Derived.Test.YtgppgecglkellaaGreatFaa
import Derived.WalkKit
import Derived.WalkSpells
import Derived.WalkLawsBesides
import Derived.Lib.Hide
import Derived.Sort.Walk0
import Derived.Lib.MinMaxS
import Derived.BigQuiet
import Derived.Deep.QuietTactic
import Derived.Deep.RegionHeld3
import Derived.OneCell
import Derived.OwnWalk
import Derived.Laws.OwnMore
import Derived.Laws.StructEq
namespace Go.Proofs.YtgppgecglkellaaGreat
open Go.RowKit

theorem less_eq (a b : ByteArray) : Op.bytesLess a.toList b.toList = decide (a < b) := by
  rw [bytesLess_eq, Lib.toList_data, Lib.toList_data]; rfl
theorem same_eq (a b : ByteArray) : (a.toList == b.toList) = decide (a = b) := by
  rw [Bool.eq_iff_iff, beq_iff_eq, decide_eq_true_iff, Lib.toList_data, Lib.toList_data]
  exact ⟨key_ext, fun h => by rw [h]⟩
theorem le_eq (a b : ByteArray) : (decide (a < b) || decide (a = b)) = decide (a ≤ b) := by
  rw [Bool.eq_iff_iff]; simp; grind
theorem ge_eq (a b : ByteArray) : (!decide (a < b)) = decide (b ≤ a) := by
  rw [Bool.eq_iff_iff]; simp; grind
theorem gt_eq (a b : ByteArray) : (!decide (a ≤ b)) = decide (b < a) := by
  rw [Bool.eq_iff_iff]; simp; grind
attribute [local go_sem] less_eq same_eq le_eq ge_eq gt_eq

set_option maxHeartbeats 400000 in
theorem rhas_any (s : K × K) (k : K) (w : World) : Calls Tryz.prog 97 #[.agg #[.string s.1, .string s.2], .string k] w fun e w' => e = .returned (.bool (decide (s.1 ≤ k) && decide (k < s.2))) ∧ Below w.heap.size w w' := by
  by_cases h : s.1 ≤ k
  all_goals
    go_enter Tryz.func97, Tryz.ntmps97
    go_wp2
    go_ret
    exact ⟨by simp [h], (Below.refl _ _).alloc (Nat.le_refl _) _⟩



theorem maxS_eq (a b : K) : Lib.maxS a b = mx a b := by unfold Lib.maxS mx; rfl
theorem minS_eq (a b : K) : Lib.minS a b = mn a b := by
  unfold Lib.minS mn
  have h : (a.data.toList < b.data.toList ∨ a.data.toList = b.data.toList) ↔ ¬ b < a := by
    show (a < b ∨ _) ↔ _
    constructor
    · rintro (h | h)
      · grind
      · have := key_ext h; grind
    · intro h
      by_cases e : a = b
      · exact .inr (by rw [e])
      · exact .inl (by grind)
  by_cases hb : b < a
  · rw [if_neg (by rw [h]; simpa using hb), if_pos hb]
  · rw [if_pos (h.2 hb), if_neg hb]

def meet (a b : K × K) : K × K := if mn a.2 b.2 ≤ mx a.1 b.1 then (⟨#[]⟩, ⟨#[]⟩) else (mx a.1 b.1, mn a.2 b.2)
def spv (s : K × K) : Value := .agg #[.string s.1, .string s.2]

set_option maxHeartbeats 400000 in
theorem rmeet_any (a b : K × K) (w : World) : Calls Tryz.prog 54 #[.agg #[.string a.1, .string a.2], .agg #[.string b.1, .string b.2]] w fun e w' => e = .returned (spv (meet a b)) ∧ Below w.heap.size w w' := by
  by_cases h1 : a.1 < b.1 <;> by_cases h2 : b.2 < a.2
  · by_cases h : b.2 ≤ b.1
    · have e : meet a b = (⟨#[]⟩, ⟨#[]⟩) := by simp [meet, mx, mn, h1, h2, h]
      rw [e]
      clear e
      go_enter Tryz.func54, Tryz.ntmps54
      go_wp2
      refine bodyPost_ret (v := .agg #[.string ⟨#[]⟩, .string ⟨#[]⟩]) (by simp [results, Tryz.results54, go_sem]) rfl ⟨rfl, ?_⟩
      ((repeat' (first | exact Below.refl _ _ | refine Below.alloc ?_ ?_ _ | refine Below.setCell ?_ ?_ _ | refine Below.drew ?_)); all_goals ((try simp only [World.size_alloc]); omega))
    · have e : meet a b = (b.1, b.2) := by simp [meet, mx, mn, h1, h2, h]
      rw [e]
      clear e
      go_enter Tryz.func54, Tryz.ntmps54
      go_wp2
      refine bodyPost_ret (v := .agg #[.string b.1, .string b.2]) (by simp [results, Tryz.results54, go_sem]) rfl ⟨rfl, ?_⟩
      ((repeat' (first | exact Below.refl _ _ | refine Below.alloc ?_ ?_ _ | refine Below.setCell ?_ ?_ _ | refine Below.drew ?_)); all_goals ((try simp only [World.size_alloc]); omega))
  · by_cases h : a.2 ≤ b.1
    · have e : meet a b = (⟨#[]⟩, ⟨#[]⟩) := by simp [meet, mx, mn, h1, h2, h]
      rw [e]
      clear e
      go_enter Tryz.func54, Tryz.ntmps54
      go_wp2
      refine bodyPost_ret (v := .agg #[.string ⟨#[]⟩, .string ⟨#[]⟩]) (by simp [results, Tryz.results54, go_sem]) rfl ⟨rfl, ?_⟩
      ((repeat' (first | exact Below.refl _ _ | refine Below.alloc ?_ ?_ _ | refine Below.setCell ?_ ?_ _ | refine Below.drew ?_)); all_goals ((try simp only [World.size_alloc]); omega))
    · have e : meet a b = (b.1, a.2) := by simp [meet, mx, mn, h1, h2, h]
      rw [e]
      clear e
      go_enter Tryz.func54, Tryz.ntmps54
      go_wp2
      refine bodyPost_ret (v := .agg #[.string b.1, .string a.2]) (by simp [results, Tryz.results54, go_sem]) rfl ⟨rfl, ?_⟩
      ((repeat' (first | exact Below.refl _ _ | refine Below.alloc ?_ ?_ _ | refine Below.setCell ?_ ?_ _ | refine Below.drew ?_)); all_goals ((try simp only [World.size_alloc]); omega))
  · by_cases h : b.2 ≤ a.1
    · have e : meet a b = (⟨#[]⟩, ⟨#[]⟩) := by simp [meet, mx, mn, h1, h2, h]
      rw [e]
      clear e
      go_enter Tryz.func54, Tryz.ntmps54
      go_wp2
      refine bodyPost_ret (v := .agg #[.string ⟨#[]⟩, .string ⟨#[]⟩]) (by simp [results, Tryz.results54, go_sem]) rfl ⟨rfl, ?_⟩
      ((repeat' (first | exact Below.refl _ _ | refine Below.alloc ?_ ?_ _ | refine Below.setCell ?_ ?_ _ | refine Below.drew ?_)); all_goals ((try simp only [World.size_alloc]); omega))
    · have e : meet a b = (a.1, b.2) := by simp [meet, mx, mn, h1, h2, h]
      rw [e]
      clear e
      go_enter Tryz.func54, Tryz.ntmps54
      go_wp2
      refine bodyPost_ret (v := .agg #[.string a.1, .string b.2]) (by simp [results, Tryz.results54, go_sem]) rfl ⟨rfl, ?_⟩
      ((repeat' (first | exact Below.refl _ _ | refine Below.alloc ?_ ?_ _ | refine Below.setCell ?_ ?_ _ | refine Below.drew ?_)); all_goals ((try simp only [World.size_alloc]); omega))
  · by_cases h : a.2 ≤ a.1
    · have e : meet a b = (⟨#[]⟩, ⟨#[]⟩) := by simp [meet, mx, mn, h1, h2, h]
      rw [e]
      clear e
      go_enter Tryz.func54, Tryz.ntmps54
      go_wp2
      refine bodyPost_ret (v := .agg #[.string ⟨#[]⟩, .string ⟨#[]⟩]) (by simp [results, Tryz.results54, go_sem]) rfl ⟨rfl, ?_⟩
      ((repeat' (first | exact Below.refl _ _ | refine Below.alloc ?_ ?_ _ | refine Below.setCell ?_ ?_ _ | refine Below.drew ?_)); all_goals ((try simp only [World.size_alloc]); omega))
    · have e : meet a b = (a.1, a.2) := by simp [meet, mx, mn, h1, h2, h]
      rw [e]
      clear e
      go_enter Tryz.func54, Tryz.ntmps54
      go_wp2
      refine bodyPost_ret (v := .agg #[.string a.1, .string a.2]) (by simp [results, Tryz.results54, go_sem]) rfl ⟨rfl, ?_⟩
      ((repeat' (first | exact Below.refl _ _ | refine Below.alloc ?_ ?_ _ | refine Below.setCell ?_ ?_ _ | refine Below.drew ?_)); all_goals ((try simp only [World.size_alloc]); omega))
end Go.Proofs.YtgppgecglkellaaGreat
namespace Go.Proofs.YtgppgecglkellaaGreat
open Go.RowKit
attribute [local go_sem] less_eq same_eq le_eq ge_eq gt_eq

/-- a slice value reads as a list of spans; its cells lie below block B -/
def RdS (w : World) (B : Nat) (v : Value) (l : List (K × K)) : Prop :=
  ∃ A c, v = .slice A l.length c ∧ l.length ≤ c ∧ ∀ i s, l[i]? = some s → ∃ b o, A = some ⟨b, o, none⟩ ∧ b < B ∧ w.cell? ⟨b, o + i * 2, none⟩ = some (.string s.1) ∧ w.cell? ⟨b, o + i * 2 + 1, none⟩ = some (.string s.2)
theorem RdS.below {w w' : World} {B C : Nat} {v : Value} {l : List (K × K)} (h : RdS w B v l) (hb : Below C w w') (hC : B ≤ C) : RdS w' B v l := by
  obtain ⟨A, c, hv, hc, hi⟩ := h
  refine ⟨A, c, hv, hc, fun i s hs => ?_⟩
  obtain ⟨b, o, hA, hB, h1, h2⟩ := hi i s hs
  exact ⟨b, o, hA, hB, by rw [hb.cell (p := ⟨b, _, none⟩) (Nat.lt_of_lt_of_le hB hC)]; exact h1, by rw [hb.cell (p := ⟨b, _, none⟩) (Nat.lt_of_lt_of_le hB hC)]; exact h2⟩

def hasB (s : K × K) (k : K) : Bool := decide (s.1 ≤ k) && decide (k < s.2)

set_option maxHeartbeats 400000 in
set_option maxRecDepth 100000 in
theorem in_any (l : List (K × K)) (v : Value) (k : K) (w : World) (hv : RdS w w.heap.size v l) (hl : l.length < 4611686018427387904) : Calls Tryz.prog 77 #[v, .string k] w fun e w' => e = .returned (.bool (l.any fun s => hasB s k)) ∧ Below w.heap.size w w' := by
  have hv0 := hv
  obtain ⟨A, c, rfl, hc, hi⟩ := hv
  generalize hR : (l.any fun s => hasB s k) = R
  have HR := Lib.hid hR; clear hR
  have HI := Lib.hid hi; clear hi
  have HV := Lib.hid hv0; clear hv0
  obtain ⟨B, hB⟩ : ∃ B, B = w.heap.size := ⟨_, rfl⟩
  rw [← hB] at HI HV
  have hb0 : Below B w w := Below.refl _ _
  have hB' : B ≤ w.heap.size := by omega
  rw [← hB]
  clear hB
  go_enter Tryz.func77, Tryz.ntmps77
  go_wp2
  go_loopw [5] (fun i wr => ∃ j : Nat, j ≤ l.length ∧ i = .int .i64 j ∧ Below B w wr ∧ (l.any fun s => hasB s k) = ((l.drop j).any fun s => hasB s k)) (fun i _ => l.length - (intOf i).toNat)
  case atStart => exact ⟨0, Nat.zero_le _, rfl, hb0, rfl⟩
  case round =>
    obtain ⟨j, hj, rfl, hb, he⟩ := hrel
    have HE := Lib.hid he; clear he
    by_cases hlt : j < l.length
    · obtain ⟨b, o, rfl, hbB, h1, h2⟩ := HI.out j l[j] (List.getElem?_eq_getElem hlt)
      have g1 := hb.cell (p := ⟨b, o + j * 2, none⟩) hbB
      have g2 := hb.cell (p := ⟨b, o + j * 2 + 1, none⟩) hbB
      rw [h1] at g1; rw [h2] at g2
      clear h1 h2
      have hd : l.drop j = l[j] :: l.drop (j + 1) := List.drop_eq_getElem_cons hlt
      have HD := Lib.hid hd; clear hd
      cases hx : hasB l[j] k
      all_goals
        have HX := Lib.hid hx
        have hc1 := rhas_any l[j] k wr
        rw [show (decide (l[j].1 ≤ k) && decide (k < l[j].2)) = hasB l[j] k from rfl, hx] at hc1
        clear hx
        go_wp2_with fail
        refine hc1.mono ?_
        rintro e w1 ⟨rfl, hb1⟩
        have hb2 : Below B w w1 := hb.trans (hb1.mono (Nat.le_trans hB' hb.size))
        go_wp2_with fail
      · go_roundw
        case rel => exact ⟨j + 1, by omega, by go_num, hb2, by rw [HE.out, HD.out, List.any_cons, HX.out, Bool.false_or]⟩
        case measure => simp [intOf]; omega
      · go_ret
        exact ⟨by rw [← HR.out, HE.out, HD.out, List.any_cons, HX.out, Bool.true_or]; rfl, hb2⟩
    · go_wp2_with fail
      go_ret
      exact ⟨by rw [← HR.out, HE.out, List.drop_eq_nil_of_le (by omega)]; rfl, hb⟩
end Go.Proofs.YtgppgecglkellaaGreat
namespace Go.Proofs.YtgppgecglkellaaGreat
open Go.RowKit
attribute [local go_sem] less_eq same_eq le_eq ge_eq gt_eq

def encK (x : K) : List Value := [.string x]
theorem encK_len (x : K) : (encK x).length = 1 := rfl
theorem encK_one (x : K) : ∀ u ∈ encK x, u.oneCell' = true := by intro u hu; simp [encK] at hu; subst hu; rfl
theorem info_keys : (Tryz.prog.info? 9).map (fun i => (i.zero, i.size, i.bytes)) = some (some (.string ⟨#[]⟩), 1, 16) := by kernel_rfl
abbrev RdK (w : World) (B : Nat) (v : Value) (l : List K) : Prop := Rd encK 1 w B v l
abbrev OwnK (w : World) (base : Nat) (v : Value) (l : List K) : Prop := Own encK 1 9 w base v l

theorem RdK.cell {w : World} {B : Nat} {A : Option Addr} {m c : Nat} {l : List K} (h : RdK w B (.slice A m c) l) {i : Nat} (hi : i < l.length) : ∃ b o, A = some ⟨b, o, none⟩ ∧ b < B ∧ w.cell? ⟨b, o + i, none⟩ = some (.string l[i]) := by
  obtain ⟨A', c', hv, _, hc⟩ := h
  injection hv with h1 _ _
  subst h1
  obtain ⟨b, o, hA, hB, h1⟩ := hc i hi
  exact ⟨b, o, hA, hB, by simpa using h1 0 (.string l[i]) rfl⟩

theorem RdK.one (w : World) (s : K) : RdK (w.alloc (.cells #[.string s] 9)) (w.heap.size + 1) (.slice (some ⟨w.heap.size, 0, none⟩) 1 1) [s] := by
  refine ⟨_, 1, rfl, Nat.le_refl _, fun i hi => ⟨w.heap.size, 0, rfl, by omega, fun j u hu => ?_⟩⟩
  obtain rfl : i = 0 := by simpa using hi
  rw [World.cell?_alloc_at _ _ _ _ rfl]
  match j, hu with
  | 0, hu => simpa [encK] using hu

/-- how many of the first keys are below one -/
def lead (s : K) : List K → Nat
  | [] => 0
  | x :: r => if x < s then lead s r + 1 else 0
def ins (l : List K) (s : K) : List K := if l[lead s l]? = some s then l else l.take (lead s l) ++ s :: l.drop (lead s l)
theorem lead_eq : ∀ (s : K) (l : List K) (j : Nat), j ≤ l.length → (∀ i (h : i < l.length), i < j → l[i] < s) → (∀ (h : j < l.length), ¬ l[j] < s) → lead s l = j
  | s, [], j, hj, _, _ => by simp at hj; simp [lead, hj]
  | s, x :: r, 0, _, _, h2 => by have := h2 (by simp); simp only [List.getElem_cons_zero] at this; rw [lead, if_neg this]
  | s, x :: r, j + 1, hj, h1, h2 => by
    have h0 := h1 0 (by simp) (by omega)
    simp only [List.getElem_cons_zero] at h0
    rw [lead, if_pos h0, lead_eq s r j (by simpa using hj) (fun i h hij => by have := h1 (i + 1) (by simpa using h) (by omega); simpa using this) (fun h => by have := h2 (by simpa using h); simpa using this)]

set_option maxHeartbeats 1000000 in
set_option maxRecDepth 100000 in
theorem insert_any (l : List K) (s : K) (v : Value) (w : World) (hv : RdK w w.heap.size v l) (hl : l.length ≤ 1000000) : Calls Tryz.prog 96 #[v, .string s] w fun e w' =>
    ∃ A c, e = .returned (.slice A (ins l s).length c) ∧ RdK w' w'.heap.size (.slice A (ins l s).length c) (ins l s) ∧ Below w.heap.size w w' := by
  obtain ⟨A, c, rfl, hc⟩ : ∃ A c, v = .slice A l.length c ∧ l.length ≤ c := by obtain ⟨A, c, h1, h2, _⟩ := hv; exact ⟨A, c, h1, h2⟩
  obtain ⟨i0, hi0, hz0, hz1, hz2⟩ := info_parts info_keys
  obtain ⟨R, hR⟩ : ∃ R, R = ins l s := ⟨_, rfl⟩
  rw [← hR]
  have HR := Lib.hid hR; clear hR
  have HV := Lib.hid hv; clear hv
  have HI0 := Lib.hid hi0; clear hi0
  have HZ0 := Lib.hid hz0; clear hz0
  have HZ1 := Lib.hid hz1; clear hz1
  have HZ2 := Lib.hid hz2; clear hz2
  go_enter Tryz.func96, Tryz.ntmps96
  go_wp2
  go_loop [5] (fun v => ∃ j : Nat, j ≤ l.length ∧ v = .int .i64 j ∧ ∀ i (h : i < l.length), i < j → l[i] < s) (fun i => l.length - (intOf i).toNat)
  case atStart => exact ⟨0, Nat.zero_le _, rfl, fun i _ h => by omega⟩
  case round =>
    obtain ⟨j, hj, rfl, hall⟩ := hrel
    have HA := Lib.hid hall; clear hall
    by_cases hlt : j < l.length
    · obtain ⟨b, o, rfl, hb, hcell⟩ := HV.out.cell hlt
      by_cases hx : l[j] < s
      · go_wp2_with fail
        go_round
        case rel => exact ⟨j + 1, by omega, by go_num, fun i h hij => by
          rcases Nat.lt_or_ge i j with h' | h'
          · exact HA.out i h h'
          · obtain rfl : i = j := by omega
            exact hx⟩
        case measure => simp [intOf]; omega
      · have hlead : lead s l = j := lead_eq s l j hj HA.out (fun _ => hx)
        by_cases he : l[j] = s
        · have hans : ins l s = l := by rw [ins, hlead, List.getElem?_eq_getElem hlt, he, if_pos rfl]
          subst he
          have HN := Lib.hid hans; clear hlead hans
          go_wp2_with fail
          go_ret
          obtain rfl := HR.out.trans HN.out
          exact ⟨_, _, rfl, HV.out, Below.refl _ _⟩
        · have hans : ins l s = l.take j ++ s :: l.drop j := by rw [ins, hlead, List.getElem?_eq_getElem hlt, if_neg (by simpa using he)]
          have HN := Lib.hid hans; clear hlead hans
          go_wp2_with (at_builtin; go_must (refine wpList_addAny (enc := encK) (k := 1) 130 9 16 i0 _ Tryz.underlying130 HI0.out HZ0.out HZ1.out HZ2.out rfl (by decide) encK_len encK_one rfl _ _ rfl w.heap.size (.slice (some ⟨w.heap.size, 0, none⟩) 0 0) [] rfl ?_ w.heap.size _ (l.take j) rfl ?_ (by simp; unfold maxLen; omega) (by simp; omega) ?_ ?_))
          · exact Own.empty _ _ (Nat.le_refl _)
          · simpa using (HV.out.take j hj).below ((Below.refl _ _).alloc (Nat.le_refl _) _) (Nat.le_refl _)
          intro A1 c1 w1 ho1 hg1
          have hb1 : Below w.heap.size w w1 := (Own.empty (enc := encK) (k := 1) (e := 9) w w.heap.size (Nat.le_refl _)).grown ((Below.refl _ w).alloc (Nat.le_refl _) _) hg1 (Nat.le_refl _) (by simp)
          have hz1 := hb1.size
          have HO1 := Lib.hid ho1; clear ho1
          have HB1 := Lib.hid hb1; clear hb1 hg1
          go_wp2_with (at_builtin; go_must (refine wpList_addAny (enc := encK) (k := 1) 130 9 16 i0 _ Tryz.underlying130 HI0.out HZ0.out HZ1.out HZ2.out rfl (by decide) encK_len encK_one rfl _ _ rfl w.heap.size (.slice A1 j c1) (l.take j) rfl ?_ (w1.heap.size + 1) _ [s] rfl ?_ (by simp; unfold maxLen; omega) (by simp; omega) ?_ ?_))
          · simpa using HO1.out.alloc (.cells #[.string s] 9)
          · exact RdK.one w1 s
          · simp; omega
          intro A2 c2 w2 ho2 hg2
          have hb2 : Below w.heap.size w w2 := (HO1.out.alloc (.cells #[.string s] 9)).grown (HB1.out.alloc hz1 _) hg2 (Nat.le_refl _) (by simp; omega)
          have hz2 := hb2.size
          have HO2 := Lib.hid ho2; clear ho2
          have HB2 := Lib.hid hb2; clear hb2 hg2
          go_wp2_with (at_builtin; go_must (refine wpList_addAny (enc := encK) (k := 1) 130 9 16 i0 _ Tryz.underlying130 HI0.out HZ0.out HZ1.out HZ2.out rfl (by decide) encK_len encK_one rfl _ _ rfl w.heap.size (.slice A2 (j + 1) c2) (l.take j ++ [s]) rfl ?_ w.heap.size _ (l.drop j) rfl ?_ (by simp; unfold maxLen; omega) (by simp; omega) ?_ ?_))
          · exact HO2.out
          · exact (HV.out.drop j (c - j) hj (by omega) (some ⟨b, o + j, none⟩) (fun _ => by simp [Addr.add_lit])).below HB2.out (Nat.le_refl _)
          · exact hz2
          intro A3 c3 w3 ho3 hg3
          have hb3 : Below w.heap.size w w3 := HO2.out.grown HB2.out hg3 (Nat.le_refl _) hz2
          have HO3 := Lib.hid ho3; clear ho3
          have HB3 := Lib.hid hb3; clear hb3 hg3
          go_wp2_with fail
          go_ret
          obtain rfl := HR.out.trans HN.out
          rw [show (l.take j ++ s :: l.drop j).length = j + (l.length - j + 1) by simp; omega]
          exact ⟨A3, c3, rfl, HO3.out.rd encK_len, HB3.out⟩
    · obtain rfl : j = l.length := by omega
      have hlead : lead s l = l.length := lead_eq s l _ hj HA.out (fun h => by omega)
      have hans : ins l s = l.take l.length ++ s :: l.drop l.length := by rw [ins, hlead, List.getElem?_eq_none (Nat.le_refl _), if_neg (by simp)]
      have HN := Lib.hid hans; clear hlead hans
      go_wp2_with (at_builtin; go_must (refine wpList_addAny (enc := encK) (k := 1) 130 9 16 i0 _ Tryz.underlying130 HI0.out HZ0.out HZ1.out HZ2.out rfl (by decide) encK_len encK_one rfl _ _ rfl w.heap.size (.slice (some ⟨w.heap.size, 0, none⟩) 0 0) [] rfl ?_ w.heap.size _ (l.take l.length) rfl ?_ (by simp; unfold maxLen; omega) (by simp; omega) ?_ ?_))
      · exact Own.empty _ _ (Nat.le_refl _)
      · simpa using (HV.out.take l.length hj).below ((Below.refl _ _).alloc (Nat.le_refl _) _) (Nat.le_refl _)
      intro A1 c1 w1 ho1 hg1
      have hb1 : Below w.heap.size w w1 := (Own.empty (enc := encK) (k := 1) (e := 9) w w.heap.size (Nat.le_refl _)).grown ((Below.refl _ w).alloc (Nat.le_refl _) _) hg1 (Nat.le_refl _) (by simp)
      have hz1 := hb1.size
      have HO1 := Lib.hid ho1; clear ho1
      have HB1 := Lib.hid hb1; clear hb1 hg1
      go_wp2_with (at_builtin; go_must (refine wpList_addAny (enc := encK) (k := 1) 130 9 16 i0 _ Tryz.underlying130 HI0.out HZ0.out HZ1.out HZ2.out rfl (by decide) encK_len encK_one rfl _ _ rfl w.heap.size (.slice A1 l.length c1) (l.take l.length) rfl ?_ (w1.heap.size + 1) _ [s] rfl ?_ (by simp; unfold maxLen; omega) (by simp; omega) ?_ ?_))
      · simpa using HO1.out.alloc (.cells #[.string s] 9)
      · exact RdK.one w1 s
      · simp; omega
      intro A2 c2 w2 ho2 hg2
      have hb2 : Below w.heap.size w w2 := (HO1.out.alloc (.cells #[.string s] 9)).grown (HB1.out.alloc hz1 _) hg2 (Nat.le_refl _) (by simp; omega)
      have hz2 := hb2.size
      have HO2 := Lib.hid ho2; clear ho2
      have HB2 := Lib.hid hb2; clear hb2 hg2
      go_wp2_with (at_builtin; go_must (refine wpList_addAny (enc := encK) (k := 1) 130 9 16 i0 _ Tryz.underlying130 HI0.out HZ0.out HZ1.out HZ2.out rfl (by decide) encK_len encK_one rfl _ _ rfl w.heap.size (.slice A2 (l.length + 1) c2) (l.take l.length ++ [s]) rfl ?_ w.heap.size _ (l.drop l.length) rfl ?_ (by simp; unfold maxLen; omega) (by simp; omega) ?_ ?_))
      · simpa using HO2.out
      · exact Rd.none_ _ _ _ _
      · exact Rd.none_ _ _ _ _
      · exact hz2
      all_goals
        intro A3 c3 w3 ho3 hg3
        have hb3 : Below w.heap.size w w3 := HO2.out.grown HB2.out hg3 (Nat.le_refl _) hz2
        have HO3 := Lib.hid ho3; clear ho3
        have HB3 := Lib.hid hb3; clear hb3 hg3
        go_wp2_with fail
        go_ret
        obtain rfl := HR.out.trans HN.out
        rw [show l.take l.length ++ s :: l.drop l.length = l ++ [s] by simp]
        exact ⟨A3, c3, by rw [List.length_append]; rfl, by simpa using HO3.out.rd encK_len, HB3.out⟩
end Go.Proofs.YtgppgecglkellaaGreat
namespace Go.Proofs.YtgppgecglkellaaGreat
section
variable {P : Program} {ops : Array Oper} {Q : Exit → Act → World → Prop} {S : World → Prop}

/-- the order: true: number i is taken; false: number i comes up alone, and is carried out -/
def planOk (ops : Array Oper) : List (Bool × Nat) → Array Bool → Bool
  | [], listed => (Region.ready .any ops listed).isEmpty
  | (true, i) :: r, listed => Region.free .any ops listed i && (Region.ready .any ops listed).contains i && planOk ops r (listed.setIfInBounds i true)
  | (false, i) :: r, listed => Region.ready .any ops listed == [i] && planOk ops r (listed.setIfInBounds i true)

def Plan (P : Program) (ops : Array Oper) (S : World → Prop) (Q : Exit → Act → World → Prop) : List (Bool × Nat) → Act → World → Prop
  | [], a, w => Q .normal a w
  | (true, i) :: r, a, w => ∃ o v, ops[i]? = some o ∧ YieldsIf P ops S o v a ∧ Plan P ops S Q r (a.put o.dst v) w
  | (false, i) :: r, a, w => wpOp P ops Q i (fun a' w' => S w' ∧ Plan P ops S Q r a' w') a w

theorem Plan.any (hs : Region.noSelect ops = true) (hQ : ∀ c a d v w, Q (.panic c) (Act.put a d v) w → Q (.panic c) a w) : ∀ (plan : List (Bool × Nat)) (fuel : Nat) (listed : Array Bool) (a : Act) (w : World),
    plan.length ≤ fuel → planOk ops plan listed = true → S w → Plan P ops S Q plan a w → wpAnyH P .any ops Q S fuel listed a w
  | [], fuel, listed, a, w, _, hp, _, h => wpAnyH_done (by simpa [planOk] using hp) h fuel
  | (true, i) :: r, fuel + 1, listed, a, w, hf, hp, hS, h => by
    obtain ⟨o, v, ho, hy, hr⟩ := h
    simp only [planOk, Bool.and_eq_true] at hp
    exact wpAnyH_take ho hs hp.1.1 hp.1.2 (fun c a w => hQ c a _ _ w) hy hS (Plan.any hs hQ r fuel _ _ _ (by simpa using hf) hp.2 hS hr)
  | (false, i) :: r, fuel + 1, listed, a, w, hf, hp, _, h => by
    simp only [planOk, Bool.and_eq_true, beq_iff_eq] at hp
    refine wpAnyH_all hp.1 (by simp) fun j hj => ?_
    obtain rfl : j = i := by simpa using hj
    exact wpOp_mono (fun a' w' h' => ⟨h'.1, Plan.any hs hQ r fuel _ _ _ (by simpa using hf) hp.2 h'.1 h'.2⟩) h
  | (true, _) :: _, 0, _, _, _, hf, _, _, _ => by simp at hf
  | (false, _) :: _, 0, _, _, _, hf, _, _, _ => by simp at hf

theorem wp_region_plan (plan : List (Bool × Nat)) {id : Nat} {a : Act} {w : World} (hm : P.follows .mixedOrders = true) (hs : (Region.noSelect ops && planOk ops plan (Array.replicate ops.size false) && decide (plan.length ≤ ops.size)) = true)
    (hQ : ∀ c a d v w, Q (.panic c) (Act.put a d v) w → Q (.panic c) a w) (hS : S w.drew) (h : Plan P ops S Q plan a w.drew) : (Code.region id ops true).wp P Q a w := by
  simp only [Bool.and_eq_true, decide_eq_true_eq] at hs
  exact wp_region_held hm (Plan.any hs.1.1 hQ plan _ _ _ _ hs.2 hs.1.2 hS h)

theorem Plan.take {i : Nat} {o : Oper} {v : Value} {r : List (Bool × Nat)} {a : Act} {w : World} (hi : ops.toList[i]? = some o) (hw : Region.wanted o (yielded ops a.tmps) = true)
    (hy : ∀ W, S W → (execOp a.eval o).run P W = .ok (.value v) W) (h : Plan P ops S Q r (a.put o.dst v) w) : Plan P ops S Q ((true, i) :: r) a w :=
  ⟨o, v, by simpa using hi, .inl ⟨hw, hy⟩, h⟩
theorem Plan.skip {i : Nat} {o : Oper} {r : List (Bool × Nat)} {a : Act} {w : World} (hi : ops.toList[i]? = some o) (hw : Region.wanted o (yielded ops a.tmps) = false)
    (h : Plan P ops S Q r (a.put o.dst undef) w) : Plan P ops S Q ((true, i) :: r) a w :=
  ⟨o, undef, by simpa using hi, .inr ⟨hw, rfl⟩, h⟩
theorem Plan.step {i : Nat} {o : Oper} {r : List (Bool × Nat)} {a : Act} {w : World} (hi : ops.toList[i]? = some o) (hw : Region.wanted o (yielded ops a.tmps) = true)
    (h : ∀ K : Act → World → Prop, Shut (∀ a w, S w → Plan P ops S Q r a w → K a w) → Oper.wp P o a w K Q) : Plan P ops S Q ((false, i) :: r) a w := by
  show wpOp P ops Q i _ a w
  refine wpOp_step (o := o) (by simpa using hi) fun K' hK => ?_
  rw [if_pos hw]
  exact h K' fun a w h1 h2 => hK a w ⟨h1, h2⟩
theorem Plan.pass {i : Nat} {o : Oper} {r : List (Bool × Nat)} {a : Act} {w : World} (hi : ops.toList[i]? = some o) (hw : Region.wanted o (yielded ops a.tmps) = false) (hS : S w)
    (h : Plan P ops S Q r (a.put o.dst undef) w) : Plan P ops S Q ((false, i) :: r) a w := by
  show wpOp P ops Q i _ a w
  unfold wpOp
  have hi' : ops[i]? = some o := by simpa using hi
  simp only [hi', hw, Bool.false_eq_true, if_false]
  exact ⟨hS, h⟩
end
end Go.Proofs.YtgppgecglkellaaGreat
namespace Go.Proofs.YtgppgecglkellaaGreat
open Go.RowKit
attribute [local go_sem] less_eq same_eq le_eq ge_eq gt_eq

def ends2 (E : List K) (s : K × K) : List K := ins (ins E s.1) s.2
theorem ins_len (l : List K) (s : K) : (ins l s).length ≤ l.length + 1 := by
  unfold ins
  split
  · omega
  · simp; omega

/-- the two cells of one span, in whatever world the statement comes to -/
def HeldE (w : World) (B b o : Nat) (s : K × K) (W : World) : Prop := W.cell? ⟨b, o, none⟩ = some (.string s.1) ∧ W.cell? ⟨b, o + 1, none⟩ = some (.string s.2) ∧ Below B w W ∧ b < W.heap.size ∧ B ≤ W.heap.size
theorem HeldE.below {w : World} {B b o : Nat} {s : K × K} {W W' : World} (h : HeldE w B b o s W) (hb : Below W.heap.size W W') : HeldE w B b o s W' :=
  ⟨(hb.cell (p := ⟨b, o, none⟩) h.2.2.2.1).trans h.1, (hb.cell (p := ⟨b, o + 1, none⟩) h.2.2.2.1).trans h.2.1, h.2.2.1.trans (hb.mono h.2.2.2.2), Nat.lt_of_lt_of_le h.2.2.2.1 hb.size, Nat.le_trans h.2.2.2.2 hb.size⟩

set_option maxHeartbeats 1000000 in
set_option maxRecDepth 100000 in
theorem ends_any (l : List (K × K)) (v : Value) (w : World) (hv : RdS w w.heap.size v l) (hl : l.length ≤ 100000) : Calls Tryz.prog 76 #[v] w fun e w' =>
    ∃ A c, e = .returned (.slice A (l.foldl ends2 []).length c) ∧ RdK w' w'.heap.size (.slice A (l.foldl ends2 []).length c) (l.foldl ends2 []) ∧ Below w.heap.size w w' ∧ (l.foldl ends2 []).length ≤ 200000 := by
  obtain ⟨A, c, rfl, hc, hi⟩ := hv
  obtain ⟨R, hR⟩ : ∃ R, R = l.foldl ends2 [] := ⟨_, rfl⟩
  rw [← hR]
  have HR := Lib.hid hR; clear hR
  have HI := Lib.hid hi; clear hi
  obtain ⟨B, hB⟩ : ∃ B, B = w.heap.size := ⟨_, rfl⟩
  rw [← hB] at HI
  have hb0 : Below B w (w.alloc (.cells #[] 9)) := (Below.refl _ w).alloc (by omega) _
  have hr0 : RdK (w.alloc (.cells #[] 9)) (w.heap.size + 1) (.slice (some ⟨w.heap.size, 0, none⟩) 0 0) [] := Rd.none_ _ _ _ _
  have hB' : B ≤ w.heap.size := by omega
  rw [← hB]
  clear hB
  have HB0 := Lib.hid hb0; clear hb0
  have HR0 := Lib.hid hr0; clear hr0
  go_enter Tryz.func76, Tryz.ntmps76
  go_wp2_with fail
  go_loopw [3, 4] (fun ov i wr => ∃ (j : Nat) (E : List K), j ≤ l.length ∧ i = .int .i64 j ∧ Below B w wr ∧ RdK wr wr.heap.size ov E ∧ E = (l.take j).foldl ends2 [] ∧ E.length ≤ 2 * j) (fun _ i _ => l.length - (intOf i).toNat)
  case atStart => exact ⟨0, [], Nat.zero_le _, rfl, HB0.out, by simpa using HR0.out, rfl, by simp⟩
  case round =>
    obtain ⟨j, E, hj, rfl, hbw, hr, hE0, hE2⟩ := hrel
    have HE0 := Lib.hid hE0; clear hE0
    by_cases hlt : j < l.length
    · obtain ⟨b, o, rfl, hbB, h1, h2⟩ := HI.out j l[j] (List.getElem?_eq_getElem hlt)
      have hz := hbw.size
      have hold : HeldE w B b (o + j * 2) l[j] wr.drew := ⟨(hbw.cell (p := ⟨b, _, none⟩) hbB).trans h1, (hbw.cell (p := ⟨b, _, none⟩) hbB).trans h2, hbw.drew, by show b < wr.heap.size; omega, by show B ≤ wr.heap.size; omega⟩
      have hE : E.length ≤ 1000000 := by omega
      have hE1 : (ins E l[j].1).length ≤ 1000000 := by have := ins_len E l[j].1; omega
      have hst : (l.take (j + 1)).foldl ends2 [] = ends2 E l[j] := by rw [List.take_succ_eq_append_getElem hlt, List.foldl_append, ← HE0.out]; rfl
      have HS := Lib.hid hst; clear hst h1 h2
      replace hr : RdK wr.drew wr.drew.heap.size u3 E := hr
      go_wp2_with fail
      refine wp_region_plan (S := HeldE w B b (o + j * 2) l[j]) [(true, 0), (true, 1), (true, 2), (true, 3), (true, 4), (true, 5), (true, 7), (true, 8), (true, 9), (true, 10), (true, 11), (false, 6), (false, 12), (true, 13)] (by kernel_rfl) (by kernel_rfl) (fun _ _ d _ _ h => by cases d <;> exact h) hold ?_
      repeat (first | (refine Plan.take (v := ?_) rfl rfl ?_ ?_; rotate_left; (focus (intro W hW; obtain ⟨c1, c2, _, _⟩ := hW; go_simp; (try with_reducible rfl); done)); (try simp only [Act.put, List.setIfInBounds_toArray, List.set_cons_zero, List.set_cons_succ])) | (refine Plan.skip rfl rfl ?_; (try simp only [Act.put, List.setIfInBounds_toArray, List.set_cons_zero, List.set_cons_succ])) | (refine Plan.pass rfl rfl hold ?_; (try simp only [Act.put, List.setIfInBounds_toArray, List.set_cons_zero, List.set_cons_succ])) | (refine Plan.step rfl rfl (fun Kk hK => ?_); go_simp; (go_at_call 96; first | ((with_reducible refine (insert_any E l[j].1 u3 _ hr hE).mono ?_); rintro e w' ⟨A1, c1, rfl, hr1, hb⟩) | ((with_reducible refine (insert_any (ins E l[j].1) l[j].2 _ _ hr1 hE1).mono ?_); rintro e w' ⟨A2, c2, rfl, hr2, hb⟩)); refine hK.out _ _ (hold.below hb) ?_; replace hold := hold.below hb; clear hK Kk hb; (try simp only [Act.put, List.setIfInBounds_toArray, List.set_cons_zero, List.set_cons_succ])))
      simp only [Plan]
      go_wp2_with fail
      go_roundw
      case rel =>
        refine ⟨j + 1, ends2 E l[j], by omega, by go_num, hold.2.2.1, hr2, HS.out.symm, ?_⟩
        have h1 := ins_len E l[j].1
        have h2 := ins_len (ins E l[j].1) l[j].2
        unfold ends2
        omega
      case measure => simp [intOf]; omega
    · obtain rfl : j = l.length := by omega
      have HRD := Lib.hid hr
      obtain ⟨A9, c9, rfl, _⟩ := hr
      go_wp2_with fail
      go_ret
      have hfin : R = E := by rw [HR.out, HE0.out, List.take_length]
      subst hfin
      exact ⟨A9, c9, rfl, HRD.out, hbw, by omega⟩
end Go.Proofs.YtgppgecglkellaaGreat
namespace Go.Proofs.YtgppgecglkellaaGreat
open Go.RowKit Go.Sort

def cellsS (s : K × K) : List Value := [.string s.1, .string s.2]
def flat (l : List (K × K)) : List Value := l.flatMap cellsS
theorem flat_nil : flat [] = [] := rfl
theorem flat_append (a b : List (K × K)) : flat (a ++ b) = flat a ++ flat b := by simp [flat]
theorem flat_one (s : K × K) : flat [s] = [.string s.1, .string s.2] := rfl
theorem flat_length (l : List (K × K)) : (flat l).length = l.length * 2 := by
  induction l with
  | nil => rfl
  | cons s r ih => rw [show s :: r = [s] ++ r from rfl, flat_append, List.length_append, ih, flat_one]; simp; omega
theorem flat_get : ∀ (l : List (K × K)) (i : Nat) (s : K × K), l[i]? = some s → (flat l)[i * 2]? = some (.string s.1) ∧ (flat l)[i * 2 + 1]? = some (.string s.2)
  | [], i, s, h => by simp at h
  | t :: r, 0, s, h => by
    simp only [List.getElem?_cons_zero, Option.some.injEq] at h
    subst h
    exact ⟨rfl, rfl⟩
  | t :: r, i + 1, s, h => by
    have h' : r[i]? = some s := by simpa using h
    have := flat_get r i s h'
    rw [show t :: r = [t] ++ r from rfl, flat_append, flat_one]
    exact ⟨by rw [show (i + 1) * 2 = i * 2 + 1 + 1 by omega]; simpa using this.1, by rw [show (i + 1) * 2 + 1 = i * 2 + 1 + 1 + 1 by omega]; simpa using this.2⟩
theorem flat_one_cell (l : List (K × K)) : ∀ u ∈ flat l, u.oneCell' = true := by
  intro u hu
  simp only [flat, List.mem_flatMap, cellsS, List.mem_cons, List.not_mem_nil, or_false] at hu
  obtain ⟨s, _, rfl | rfl⟩ := hu <;> rfl
/-- the last span's end stored anew -/
theorem flat_set (p : List (K × K)) (l : K × K) (t : K) : (flat (p ++ [l])).set (p.length * 2 + 1) (.string t) = flat (p ++ [(l.1, t)]) := by
  rw [flat_append, flat_append, List.set_append, flat_length, if_neg (by omega)]
  simp [flat_one]

/-- a slice of the call's own, no block of it below base, that holds a list of spans -/
def OwnS (w : World) (base : Nat) (v : Value) (l : List (K × K)) : Prop := w.ownsRow base 52 2 v l.length (flat l)
section
variable {w w' : World} {base : Nat} {v : Value} {l : List (K × K)}
theorem OwnS.nil (w : World) (base : Nat) : OwnS w base (.slice none 0 0) [] := World.ownsRow_nil w base _ 2
theorem OwnS.form (h : OwnS w base v l) : (v = .slice none 0 0 ∧ l = []) ∨ ∃ g cap, v = .slice (some ⟨g, 0, none⟩) l.length cap ∧ base ≤ g ∧ g < w.heap.size ∧ l.length ≤ cap := by
  rcases h.2 with ⟨hv, h0⟩ | ⟨g, cap, cur, hv, hg, hh, hc, _⟩
  · exact .inl ⟨hv, List.eq_nil_of_length_eq_zero h0⟩
  · exact .inr ⟨g, cap, hv, hg, (Array.getElem?_eq_some_iff.1 hh).1, hc⟩
theorem OwnS.rd (h : OwnS w base v l) : RdS w w.heap.size v l := by
  rcases h.form with ⟨hv, rfl⟩ | ⟨g, cap, hv, hg, hlt, hc⟩
  · exact ⟨none, 0, hv, Nat.le_refl _, fun i s hs => by simp at hs⟩
  · refine ⟨_, cap, hv, hc, fun i s hs => ⟨g, 0, rfl, hlt, ?_, ?_⟩⟩
    all_goals
      have hi : i < l.length := by rcases Nat.lt_or_ge i l.length with h' | h'; · exact h'
                                   · rw [List.getElem?_eq_none h'] at hs; cases hs
      subst hv
      have hf := flat_get l i s hs
      unfold OwnS at h
    · rw [Nat.zero_add, h.cellAt _ (by omega)]; exact hf.1
    · rw [Nat.zero_add, h.cellAt _ (by omega)]; exact hf.2
theorem OwnS.drewN (h : OwnS w base v l) (n : Nat) : OwnS (w.drewN n) base v l := h
theorem OwnS.alloc (h : OwnS w base v l) (o : Obj) : OwnS (w.alloc o) base v l := World.ownsRow.alloc h o
theorem OwnS.kept {row : Option Nat} (h : OwnS w base v l) (hg : w.grownBy w' row) (hne : v.ownBlock = none ∨ v.ownBlock ≠ row) : OwnS w' base v l := World.ownsRow.kept h hg hne
theorem OwnS.below {B : Nat} (h : OwnS w base v l) (hb : Below B w w') (hB : w.heap.size ≤ B) : OwnS w' base v l :=
  h.kept (row := none) ⟨hb.os, hb.tape, hb.output, hb.size, fun k hk _ => hb.block k (Nat.lt_of_lt_of_le hk hB)⟩ (by cases v.ownBlock <;> simp)
theorem OwnS.lower {base' : Nat} (h : OwnS w base v l) (hb : base' ≤ base) : OwnS w base' v l := by
  refine ⟨h.1, ?_⟩
  rcases h.2 with h2 | ⟨g, cap, cur, hv, hg, r⟩
  · exact .inl h2
  · exact .inr ⟨g, cap, cur, hv, Nat.le_trans hb hg, r⟩
end

/-- what has turned between two worlds, one block aside: steps on -/
theorem grow_trans {a b c : World} {row row' : Option Nat} (h : a.grownBy b row) (g : b.grownBy c row') (hr : ∀ k, row' = some k → a.heap.size ≤ k ∨ some k = row) : a.grownBy c row :=
  ⟨g.os.trans h.os, g.tape.trans h.tape, g.output.trans h.output, Nat.le_trans h.size g.size, fun k hk hne => by
    rw [g.block k (Nat.lt_of_lt_of_le hk h.size) (fun e => by
      rcases hr k e.symm with h1 | h1
      · omega
      · exact hne h1)]
    exact h.block k hk hne⟩
theorem grow_below {a b c : World} {row : Option Nat} {B : Nat} (h : a.grownBy b row) (g : Below B b c) (hB : a.heap.size ≤ B) : a.grownBy c row :=
  ⟨g.os.trans h.os, g.tape.trans h.tape, g.output.trans h.output, Nat.le_trans h.size g.size, fun k hk hne => (g.block k (Nat.lt_of_lt_of_le hk hB)).trans (h.block k hk hne)⟩
theorem grow_drewN {a w : World} {row : Option Nat} (h : a.grownBy w row) (n : Nat) : a.grownBy (w.drewN n) row := ⟨h.os, h.tape, h.output, h.size, h.block⟩
theorem grow_alloc {a w : World} {row : Option Nat} (h : a.grownBy w row) (o : Obj) : a.grownBy (w.alloc o) row :=
  grow_trans h (World.grownBy_alloc w o none) (fun k hk => by cases hk)
theorem grow_set {a w : World} {g : Nat} (h : a.grownBy w (some g)) (j : Nat) (u : Value) : a.grownBy (w.setCell ⟨g, j, none⟩ u) (some g) :=
  ⟨h.os, h.tape, h.output, by simpa [World.setCell] using h.size, fun k hk hne => (Below.heap_setCell w _ u k (fun e => hne (by rw [e]))).trans (h.block k hk hne)⟩
theorem grow_setNew {a w : World} {row : Option Nat} (h : a.grownBy w row) {g : Nat} (hg : a.heap.size ≤ g) (j : Nat) (u : Value) : a.grownBy (w.setCell ⟨g, j, none⟩ u) row :=
  ⟨h.os, h.tape, h.output, by simpa [World.setCell] using h.size, fun k hk hne => (Below.heap_setCell w _ u k (fun e => by simp only at e; omega)).trans (h.block k hk hne)⟩
theorem OwnS.setLast {w : World} {base g cap : Nat} {p : List (K × K)} {l : K × K} (h : OwnS w base (.slice (some ⟨g, 0, none⟩) (p ++ [l]).length cap) (p ++ [l])) (t : K) :
    OwnS (w.setCell ⟨g, p.length * 2 + 1, none⟩ (.string t)) base (.slice (some ⟨g, 0, none⟩) (p ++ [l]).length cap) (p ++ [(l.1, t)]) := by
  unfold OwnS at h ⊢
  have h1 := (h.stored (p.length * 2 + 1) (.string t)).1
  rw [flat_set] at h1
  simpa using h1
theorem OwnS.setOther {w : World} {base : Nat} {v : Value} {l : List (K × K)} (h : OwnS w base v l) {g : Nat} (hg : g < base) (j : Nat) (u : Value) : OwnS (w.setCell ⟨g, j, none⟩ u) base v l :=
  ownsRow_setCell_other h (a := ⟨g, j, none⟩) (fun e => by have := (h.lt g e).1; omega) u

theorem OwnS.read {w : World} {base : Nat} {v : Value} {l : List (K × K)} (h : OwnS w base v l) : ∃ A c, v = .slice A l.length c ∧ ∀ i (_ : i < l.length), ∃ g, A = some ⟨g, 0, none⟩ ∧ base ≤ g ∧ g < w.heap.size ∧
    w.cell? ⟨g, i * 2, none⟩ = some (.string l[i].1) ∧ w.cell? ⟨g, i * 2 + 1, none⟩ = some (.string l[i].2) := by
  rcases h.form with ⟨hv, rfl⟩ | ⟨g, cap, rfl, hg, hlt, hc⟩
  · exact ⟨none, 0, hv, fun i hi => by simp at hi⟩
  · refine ⟨_, cap, rfl, fun i hi => ⟨g, rfl, hg, hlt, ?_, ?_⟩⟩
    all_goals
      have hf := flat_get l i l[i] (List.getElem?_eq_getElem hi)
      unfold OwnS at h
    · rw [h.cellAt _ (by omega)]; exact hf.1
    · rw [h.cellAt _ (by omega)]; exact hf.2
theorem RdS.mono {w : World} {B C : Nat} {v : Value} {l : List (K × K)} (h : RdS w B v l) (hC : B ≤ C) : RdS w C v l := by
  obtain ⟨A, c, hv, hc, hi⟩ := h
  refine ⟨A, c, hv, hc, fun i s hs => ?_⟩
  obtain ⟨b, o, hA, hB, h1, h2⟩ := hi i s hs
  exact ⟨b, o, hA, Nat.lt_of_lt_of_le hB hC, h1, h2⟩

theorem info_spans : (Tryz.prog.info? 52).map (fun i => (i.zero, i.size, i.bytes)) = some (some (.agg #[.string ⟨#[]⟩, .string ⟨#[]⟩]), 2, 32) := by kernel_rfl

/-- append of one span that lies in a block of its own, in a region that goes by the text's order -/
theorem wpList_addS {ops : Array Oper} {rest : List Oper} {o : Oper} {a : Act} {Q : Exit → Act → World → Prop} {w : World} (hgd : o.guard = none) (s x : Operand)
    (ho : o.op = .call { callee := .builtin .append, args := #[s, x], argTypes := #[44, 44] })
    (base : Nat) (v : Value) (l : List (K × K)) (hs : a.eval s = v) (hown : OwnS w base v l) (ad : Addr) (c : Nat) (p : List (K × K))
    (hx : a.eval x = .slice (some ad) p.length c) (hc : ∀ j u, (flat p)[j]? = some u → w.cell? (ad.add j) = some u) (hn : l.length + p.length ≤ 4000000) (hbase : base ≤ w.heap.size)
    (h : ∀ A' c' w', OwnS w' base (.slice A' (l ++ p).length c') (l ++ p) → w.grownBy w' v.ownBlock → wpList Tryz.prog ops Q rest (a.put o.dst (.slice A' (l ++ p).length c')) w') : wpList Tryz.prog ops Q (o :: rest) a w := by
  obtain ⟨i0, hi, hz0, hz1, hz2⟩ := info_parts info_spans
  refine wpList_append_own w hgd s x 44 ho base 52 i0 _ 2 32 Tryz.underlying44 hi hz0 hz1 hz2 rfl (by decide) v l.length (flat l) hs hown ad p.length c (flat p) hx (flat_length p) hc (flat_one_cell p) (by unfold maxLen; omega) (by omega) hbase ?_
  intro v' w' h1 h2 _
  have h3 : OwnS w' base v' (l ++ p) := by unfold OwnS; rw [List.length_append, flat_append]; exact h1
  have hv : ∃ A' c', v' = .slice A' (l ++ p).length c' := by
    rcases h3.form with ⟨hv, h0⟩ | ⟨g, cap, hv, _⟩
    · exact ⟨none, 0, by rw [h0]; exact hv⟩
    · exact ⟨_, _, hv⟩
  obtain ⟨A', c', rfl⟩ := hv
  exact h A' c' w' h3 h2

/-- the two cells of a new block are those of one span -/
theorem new_cells (w : World) (s : K × K) (t : TypeId) : ∀ j u, (flat [s])[j]? = some u → (w.alloc (.cells #[.string s.1, .string s.2] t)).cell? ((⟨w.heap.size, 0, none⟩ : Addr).add j) = some u := by
  intro j u hu
  rw [flat_one] at hu
  have hadd : ∀ j, (⟨w.heap.size, 0, none⟩ : Addr).add j = ⟨w.heap.size, j, none⟩ := fun j => by unfold Addr.add; split <;> simp_all
  rw [hadd, World.cell?_alloc_at _ _ _ j rfl, ← hu]
  rw [← Array.getElem?_toList]
end Go.Proofs.YtgppgecglkellaaGreat
namespace Go.Proofs.YtgppgecglkellaaGreat
open Go.RowKit
attribute [local go_sem] less_eq same_eq le_eq ge_eq gt_eq

theorem span_guard : Tryz.prog.eqGuardType Tryz.prog.depth 52 = false := by kernel_rfl
set_option maxRecDepth 100000 in
theorem eql_span (a b c d : K) (W : World) : (binOp .eql 52 (.agg #[.string a, .string b]) (.agg #[.string c, .string d])).run Tryz.prog W = .ok (.bool (decide (a = c) && decide (b = d))) W := by
  have hS : Tryz.prog.underlying 52 = some (.struct (Tryz.prog.fieldsOf 52)) := by kernel_rfl
  have hp : Tryz.prog.stoodInHeld 52 = false := by kernel_rfl
  have u := Tryz.underlying9
  have ag := Tryz.isAgg9
  have sz := Tryz.sizeOf9
  rw [run_eql_struct, show (10000 : Nat) = 9999 + 1 from rfl, run_equalIn_agg W 9999 52 _ _ hS hp]
  simp only [Program.fieldsOf, Tryz.underlying52]
  go_simp
  by_cases h1 : a = c <;> by_cases h2 : b = d <;> simp [h1, h2]
set_option maxRecDepth 100000 in
theorem neq_span (a b c d : K) (W : World) : (binOp .neq 52 (.agg #[.string a, .string b]) (.agg #[.string c, .string d])).run Tryz.prog W = .ok (.bool (!(decide (a = c) && decide (b = d)))) W := by
  have h := eql_span a b c d W
  rw [run_eql_struct] at h
  rw [run_neq_struct]
  cases hr : (Op.equalIn 10000 52 (.agg #[.string a, .string b]) (.agg #[.string c, .string d])).run Tryz.prog W with
  | ok x w' => rw [hr] at h; simp only [Result.andThen] at h ⊢; injection h with h1 h2; subst h2; injection h1 with h1; rw [h1]
  | halt x w' => rw [hr] at h; simp [Result.andThen] at h
end Go.Proofs.YtgppgecglkellaaGreat
