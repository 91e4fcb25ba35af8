/- The frame layer's writer: what its calls leave. -/
import Derived.Test.YtiijcikdlemndaaFr
import Derived.Test.YtiijcikdlemndaaWnum
import Derived.Test.YtiijcikdlemndaaPlanT
namespace Go.Proofs.Ytiijcikdlemndaa
open Go.RowKit

theorem Whole.rd {α : Type} {enc : α → List Value} {k : Nat} (hk : ∀ x, (enc x).length = k) {w : World} {g : Nat} {t : TypeId} {l : List α} (h : Whole w g t (flatG enc l)) : Rd enc k w (g + 1) (.slice (some ⟨g, 0, none⟩) l.length l.length) l := by
  refine ⟨_, l.length, rfl, Nat.le_refl _, fun i hi => ⟨g, 0, rfl, Nat.lt_succ_self _, fun j u hu => ?_⟩⟩
  have hj : j < k := by
    rcases Nat.lt_or_ge j k with h' | h'
    · exact h'
    · rw [List.getElem?_eq_none (by rw [hk]; exact h')] at hu; cases hu
  refine h.cell _ _ ?_
  rw [Nat.zero_add, flatG_get hk l i hi j hj]
  exact hu

/-- a writer of the frame layer at block p -/
def FW (w : World) (base p : Nat) (l : List UInt8) : Prop :=
  ∃ A c, Whole w p 64 [.slice A l.length c] ∧ OwnB w base (.slice A l.length c) l ∧ base ≤ p ∧ base ≤ w.heap.size
/-- blocks of other types than a writer's and its bytes' are kept -/
def Keeps (w w' : World) : Prop := w.heap.size ≤ w'.heap.size ∧ ∀ g t cs, Whole w g t cs → t ≠ 5 → t ≠ 64 → Whole w' g t cs
theorem Keeps.refl (w : World) : Keeps w w := ⟨Nat.le_refl _, fun _ _ _ h _ _ => h⟩
theorem Keeps.trans {a b c : World} (h : Keeps a b) (k : Keeps b c) : Keeps a c := ⟨Nat.le_trans h.1 k.1, fun g t cs h1 h2 h3 => k.2 g t cs (h.2 g t cs h1 h2 h3) h2 h3⟩
theorem Keeps.of {w w' : World} (h : Below w.heap.size w w') : Keeps w w' := ⟨h.size, fun _ _ _ h1 _ _ => h1.below h h1.size⟩
theorem Keeps.alloc (w : World) (o : Obj) : Keeps w (w.alloc o) := .of ((Below.refl _ w).alloc (Nat.le_refl _) o)
theorem FW.more {w w' : World} {base p B : Nat} {l : List UInt8} (h : FW w base p l) (hb : Below B w w') (hB : w.heap.size ≤ B) : FW w' base p l := by
  obtain ⟨A, c, hw, ho, hp, hs⟩ := h
  exact ⟨A, c, hw.below hb (Nat.lt_of_lt_of_le hw.size hB), ho.below hb hB, hp, Nat.le_trans hs hb.size⟩
theorem FW.size {w : World} {base p : Nat} {l : List UInt8} (h : FW w base p l) : base ≤ w.heap.size := by obtain ⟨_, _, _, _, _, h⟩ := h; exact h
/-- what an append of its bytes and a store leave -/
theorem FW.stored {w w2 : World} {base p : Nat} {l l2 : List UInt8} {A A2 : Option Addr} {c c2 : Nat} (hb : Whole w p 64 [.slice A l.length c]) (ho : OwnB w base (.slice A l.length c) l) (hp : base ≤ p) (hs : base ≤ w.heap.size)
    (ho2 : OwnB w2 base (.slice A2 l2.length c2) l2) (hg : w.grownBy w2 (Value.slice A l.length c).ownBlock) :
    FW (w2.setCell ⟨p, 0, none⟩ (.slice A2 l2.length c2)) base p l2 ∧ Below base w (w2.setCell ⟨p, 0, none⟩ (.slice A2 l2.length c2)) ∧ Keeps w (w2.setCell ⟨p, 0, none⟩ (.slice A2 l2.length c2)) := by
  have hb2 := hb.grown hg (ho.apart hb (by decide))
  refine ⟨⟨A2, c2, hb2.put 0 _, ho2.put hb2 (by decide) 0 _, hp, ?_⟩, (ho.grown (Below.refl _ _) hg (Nat.le_refl _) hs).setCell hp _, ?_, fun g t cs h1 h2 h3 => ?_⟩
  · have := hg.size; simp; omega
  · have := hg.size; simpa using this
  · have hne : some g ≠ (Value.slice A l.length c).ownBlock := ho.apart h1 (Ne.symm h2)
    exact (h1.grown hg hne).away (p := ⟨p, 0, none⟩) (h1.apart hb h3) _

set_option maxHeartbeats 1000000 in
set_option maxRecDepth 100000 in
theorem fnums_any (l : List Int) (hr : ∀ n ∈ l, 0 ≤ n ∧ n < 9223372036854775808) (hl : l.length ≤ 4096) (v : Value) (base p : Nat) (m : List UInt8) (w : World) (hw : FW w base p m) (hv : RdI w w.heap.size v l) (hm : m.length ≤ 200000000000000) :
    Calls Try.prog 31 #[.pointer (some ⟨p, 0, none⟩), v] w fun x w' => x = .returned (.pointer (some ⟨p, 0, none⟩)) ∧ FW w' base p (m ++ encs l) ∧ Below base w w' ∧ Keeps w w' := by
  obtain ⟨A, c, hb, ho, hp, hs⟩ := hw
  have hn := nums_any l (fun n h => (hr n h).2) v w hv (by omega)
  rw [show numsAns l = (encs l, 0) by
    rw [numsAns, if_neg (by omega), if_neg]
    simp only [List.any_eq_true, decide_eq_true_eq, not_exists, not_and]
    intro n h
    have := (hr n h).1
    omega] at hn
  have hlen := encs_len l (fun n h => (hr n h).2)
  obtain ⟨A3, c3, rfl, _, _⟩ := hv.at
  generalize encs l = R at hn hlen ⊢
  have HN := Lib.hid hn; clear hn hr hv
  have HB := Lib.hid hb; clear hb
  have HO := Lib.hid ho; clear ho
  go_enter Try.func31, Try.ntmps31
  go_wp2_with fail
  refine HN.out.mono ?_
  rintro e w1 ⟨v1, rfl, hr1, hb1⟩
  have hW1 := HB.out.below hb1 HB.out.size
  have hO1 := HO.out.below hb1 (Nat.le_refl _)
  obtain ⟨A1, c1, rfl, _, _⟩ := hr1.at
  have c0 := hW1.cell 0 _ rfl
  have hs1 : base ≤ w1.heap.size := Nat.le_trans hs hb1.size
  have HK1 := Lib.hid (Keeps.of hb1)
  have HB1 := Lib.hid (hb1.mono hs); clear hb1
  have HW1 := Lib.hid hW1; clear hW1
  have HO1 := Lib.hid hO1; clear hO1
  have HR1 := Lib.hid hr1; clear hr1
  go_wp2_with (at_builtin; go_must (refine wpList_addBG rfl _ _ rfl base (.slice A m.length c) m rfl HO1.out w1.heap.size _ R rfl HR1.out (by omega) hs1 ?_))
  intro A2 c2 w2 ho2 hg2
  have hb2 := HW1.out.grown hg2.out (HO1.out.apart HW1.out (by decide))
  have k0 := hb2.cell 0 _ rfl
  have g0 := hb2.frozen 0
  obtain ⟨h1, h2, h3⟩ := FW.stored (l2 := m ++ R) (A2 := A2) (c2 := c2) HW1.out HO1.out hp hs1 (by rw [List.length_append]; exact ho2.out) hg2.out
  have H1 := Lib.hid h1
  have H2 := Lib.hid h2
  have H3 := Lib.hid h3
  clear hb2 h1 h2 h3 ho2 hg2
  simp only [List.length_append] at H1 H2 H3
  go_wp2_with fail
  go_ret
  exact ⟨rfl, H1.out, HB1.out.trans H2.out, HK1.out.trans H3.out⟩

/-- texts as bytes -/
def txts (ks : List K) : List UInt8 := ks.flatMap fun k => encT k.data.toList
theorem txts_append (a b : List K) : txts (a ++ b) = txts a ++ txts b := by simp [txts]
theorem encT_len (k : K) (h : k.size ≤ 65536) : (encT k.data.toList).length ≤ k.size + 9 := by
  rw [encT, List.length_append, data_len]
  have := enc_len9 (n := k.size) (by omega)
  omega
theorem txts_len : ∀ (ks : List K), (∀ k ∈ ks, k.size ≤ 65536) → (txts ks).length ≤ ks.length * 65545
  | [], _ => by simp [txts]
  | k :: r, h => by
    have h1 := txts_len r fun x hx => h x (by simp [hx])
    have h2 := encT_len k (h k (by simp))
    have h3 := h k (by simp)
    rw [show txts (k :: r) = encT k.data.toList ++ txts r from rfl, List.length_append, List.length_cons]
    omega

set_option maxHeartbeats 2000000 in
set_option maxRecDepth 100000 in
theorem ftexts_any (ks : List K) (hs : ∀ k ∈ ks, k.size ≤ 65536) (n : Nat) (hn : ks.length = n) (hn2 : n ≤ 24) (g base p : Nat) (m : List UInt8) (w : World) (hw : FW w base p m) (hg : Whole w g 9 (ks.map .string)) (hm : m.length ≤ 190000000000000) :
    Calls Try.prog 32 #[.pointer (some ⟨p, 0, none⟩), .slice (some ⟨g, 0, none⟩) n n] w fun x w' => x = .returned (.pointer (some ⟨p, 0, none⟩)) ∧ FW w' base p (m ++ txts ks) ∧ Below base w w' ∧ Keeps w w' := by
  have HW := Lib.hid hw; clear hw
  have HG := Lib.hid hg; clear hg
  have HS := Lib.hid hs; clear hs
  go_enter Try.func32, Try.ntmps32
  go_wp2_with fail
  go_loopw [11] (fun iv wr => ∃ (i : Nat) (m' : List UInt8), i ≤ n ∧ iv = .int .i64 i ∧ FW wr base p m' ∧ m' = m ++ txts (ks.take i) ∧ m'.length ≤ m.length + i * 65545 ∧ Whole wr g 9 (ks.map .string) ∧ Below base w wr ∧ Keeps w wr) (fun iv _ => n - (intOf iv).toNat)
  case atStart => exact ⟨0, m, Nat.zero_le _, rfl, HW.out, by simp [txts], by omega, HG.out, Below.refl _ _, Keeps.refl _⟩
  case round =>
    obtain ⟨i, m', hi, rfl, ⟨A, c, hb, ho, hp, hs⟩, hme, hml, hwg, hbw, hk⟩ := hrel
    have HB := Lib.hid hb; clear hb
    have HO := Lib.hid ho; clear ho
    have HME := Lib.hid hme; clear hme
    have HWG := Lib.hid hwg; clear hwg
    have HBW := Lib.hid hbw; clear hbw
    have HK := Lib.hid hk; clear hk
    by_cases hlt : i < n
    · have hlt2 : i < ks.length := by omega
      have hks := HS.out ks[i] (List.getElem_mem hlt2)
      have hx := HWG.out.cell i (.string ks[i]) (by simp [hlt2])
      have htk : txts (ks.take (i + 1)) = txts (ks.take i) ++ encT ks[i].data.toList := by
        rw [List.take_add_one, List.getElem?_eq_getElem hlt2, txts_append]; simp [txts]
      generalize ks[i] = k at hks hx htk
      have hpt := fun W => putText_any [] (.slice none 0 0) k W (Rd.nil _ _) (by simp) (by omega)
      rw [show putTAns [] k = (encT k.data.toList, 0) by rw [putTAns, if_neg (by omega)]; rfl] at hpt
      have hel := encT_len k hks
      have hnew : m' ++ encT k.data.toList = m ++ txts (ks.take (i + 1)) := by rw [HME.out, htk, List.append_assoc]
      generalize encT k.data.toList = R at hpt hel hnew
      have HPT := Lib.hid hpt
      have HNEW := Lib.hid hnew
      clear hpt htk hnew
      go_wp2_with fail
      refine (HPT.out _).mono ?_
      rintro e w1 ⟨v1, rfl, hr1, hb1⟩
      have hW1 := HB.out.below hb1 HB.out.size
      have hO1 := HO.out.below hb1 (Nat.le_refl _)
      have hG1 := HWG.out.below hb1 HWG.out.size
      obtain ⟨A1, c1, rfl, _, _⟩ := hr1.at
      have c0 := hW1.cell 0 _ rfl
      have hs1 : base ≤ w1.heap.size := Nat.le_trans hs hb1.size
      have HK1 := Lib.hid (HK.out.trans (Keeps.of hb1))
      have HB1 := Lib.hid (HBW.out.trans (hb1.mono hs)); clear hb1
      have HW1 := Lib.hid hW1; clear hW1
      have HO1 := Lib.hid hO1; clear hO1
      have HR1 := Lib.hid hr1; clear hr1
      have HG1 := Lib.hid hG1; clear hG1 hx
      go_wp2_with (at_builtin; go_must (refine wpList_addBG rfl _ _ rfl base (.slice A m'.length c) m' rfl HO1.out w1.heap.size _ R rfl HR1.out (by omega) hs1 ?_))
      intro A2 c2 w2 ho2 hg2
      have hb2 := HW1.out.grown hg2.out (HO1.out.apart HW1.out (by decide))
      have k0 := hb2.cell 0 _ rfl
      have g0 := hb2.frozen 0
      obtain ⟨h1, h2, h3⟩ := FW.stored (l2 := m' ++ R) (A2 := A2) (c2 := c2) HW1.out HO1.out hp hs1 (by rw [List.length_append]; exact ho2.out) hg2.out
      have h4 := h3.2 _ _ _ HG1.out (by decide) (by decide)
      have H1 := Lib.hid h1
      have H2 := Lib.hid h2
      have H3 := Lib.hid h3
      have H4 := Lib.hid h4
      clear hb2 h1 h2 h3 h4 ho2 hg2
      simp only [List.length_append] at H1 H2 H3 H4
      go_wp2_with fail
      go_roundw
      case rel => exact ⟨i + 1, m' ++ R, by omega, by go_num, H1.out, HNEW.out, by rw [List.length_append]; omega, H4.out, HB1.out.trans H2.out, HK1.out.trans H3.out⟩
      case measure => simp [intOf]; omega
    · obtain rfl : i = n := by omega
      have hfw : FW wr base p m' := ⟨A, c, HB.out, HO.out, hp, hs⟩
      have hm2 := HME.out
      rw [List.take_of_length_le (by omega)] at hm2
      rw [hm2] at hfw
      have HF := Lib.hid hfw; clear hfw hm2
      go_wp2_with fail
      go_ret
      exact ⟨rfl, HF.out, HBW.out, HK.out⟩
end Go.Proofs.Ytiijcikdlemndaa
