/- The program: whether a transaction is sound; PutTxn. -/
import Derived.Test.YtgppgecglkellaaGreatFal
import Derived.Test.YtgppgecglkellaaGreatFad
import Derived.Test.YtgppgecglkellaaGreatFam
namespace Go.Proofs.YtgppgecglkellaaGreat
open Go.RowKit
attribute [local go_sem] less_eq same_eq le_eq ge_eq gt_eq
def listB {α : Type} (f : α → List UInt8) (l : List α) : List UInt8 := enc l.length ++ l.flatMap f
def spanB (s : K × K) : List UInt8 := encT s.1.data.toList ++ encT s.2.data.toList
def chgB (c : Chg) : List UInt8 := enc c.kind.toNat ++ (encT c.key.data.toList ++ encT c.val.data.toList)
theorem allAns_all : ∀ {l : List Chg}, allAns l = 0 → ∀ c ∈ l, checkAns c = 0
  | [], _, c, hc => by simp at hc
  | x :: r, h, c, hc => by
    rw [allAns] at h
    split at h
    · rcases List.mem_cons.1 hc with rfl | hc
      · assumption
      · exact allAns_all h c hc
    · exact absurd h (by assumption)

/-! ### transactions -/
def txnB (t : Txn) : List UInt8 := enc t.read.toNat ++ (listB spanB t.reads ++ listB chgB t.chgs)
end Go.Proofs.YtgppgecglkellaaGreat
namespace Go.Proofs.YtgppgecglkellaaGreat
open Go.RowKit

theorem Whole.rd {α : Type} {enc : α → List Value} {k : Nat} (hk : ∀ x, (enc x).length = k) {w : World} {g : Nat} {t : TypeId} {l : List α} (h : Whole w g t (flatG enc l)) : Rd enc k w (g + 1) (.slice (some ⟨g, 0, none⟩) l.length l.length) l := by
  refine ⟨_, l.length, rfl, Nat.le_refl _, fun i hi => ⟨g, 0, rfl, Nat.lt_succ_self _, fun j u hu => ?_⟩⟩
  have hj : j < k := by
    rcases Nat.lt_or_ge j k with h' | h'
    · exact h'
    · rw [List.getElem?_eq_none (by rw [hk]; exact h')] at hu; cases hu
  refine h.cell _ _ ?_
  rw [Nat.zero_add, flatG_get hk l i hi j hj]
  exact hu

/-- a writer of the frame layer at block p -/
def FW (w : World) (base p : Nat) (l : List UInt8) : Prop :=
  ∃ A c, Whole w p 95 [.slice A l.length c] ∧ OwnB w base (.slice A l.length c) l ∧ base ≤ p ∧ base ≤ w.heap.size
/-- blocks of other types than a writer's and its bytes' are kept -/
def Keeps (w w' : World) : Prop := w.heap.size ≤ w'.heap.size ∧ ∀ g t cs, Whole w g t cs → t ≠ 5 → t ≠ 95 → Whole w' g t cs
theorem Keeps.refl (w : World) : Keeps w w := ⟨Nat.le_refl _, fun _ _ _ h _ _ => h⟩
theorem Keeps.trans {a b c : World} (h : Keeps a b) (k : Keeps b c) : Keeps a c := ⟨Nat.le_trans h.1 k.1, fun g t cs h1 h2 h3 => k.2 g t cs (h.2 g t cs h1 h2 h3) h2 h3⟩
theorem Keeps.of {w w' : World} (h : Below w.heap.size w w') : Keeps w w' := ⟨h.size, fun _ _ _ h1 _ _ => h1.below h h1.size⟩
theorem Keeps.alloc (w : World) (o : Obj) : Keeps w (w.alloc o) := .of ((Below.refl _ w).alloc (Nat.le_refl _) o)
theorem FW.more {w w' : World} {base p B : Nat} {l : List UInt8} (h : FW w base p l) (hb : Below B w w') (hB : w.heap.size ≤ B) : FW w' base p l := by
  obtain ⟨A, c, hw, ho, hp, hs⟩ := h
  exact ⟨A, c, hw.below hb (Nat.lt_of_lt_of_le hw.size hB), ho.below hb hB, hp, Nat.le_trans hs hb.size⟩
theorem FW.size {w : World} {base p : Nat} {l : List UInt8} (h : FW w base p l) : base ≤ w.heap.size := by obtain ⟨_, _, _, _, _, h⟩ := h; exact h
/-- what an append of its bytes and a store leave -/
theorem FW.stored {w w2 : World} {base p : Nat} {l l2 : List UInt8} {A A2 : Option Addr} {c c2 : Nat} (hb : Whole w p 95 [.slice A l.length c]) (ho : OwnB w base (.slice A l.length c) l) (hp : base ≤ p) (hs : base ≤ w.heap.size)
    (ho2 : OwnB w2 base (.slice A2 l2.length c2) l2) (hg : w.grownBy w2 (Value.slice A l.length c).ownBlock) :
    FW (w2.setCell ⟨p, 0, none⟩ (.slice A2 l2.length c2)) base p l2 ∧ Below base w (w2.setCell ⟨p, 0, none⟩ (.slice A2 l2.length c2)) ∧ Keeps w (w2.setCell ⟨p, 0, none⟩ (.slice A2 l2.length c2)) := by
  have hb2 := hb.grown hg (ho.apart hb (by decide))
  refine ⟨⟨A2, c2, hb2.put 0 _, ho2.put hb2 (by decide) 0 _, hp, ?_⟩, (ho.grown (Below.refl _ _) hg (Nat.le_refl _) hs).setCell hp _, ?_, fun g t cs h1 h2 h3 => ?_⟩
  · have := hg.size; simp; omega
  · have := hg.size; simpa using this
  · have hne : some g ≠ (Value.slice A l.length c).ownBlock := ho.apart h1 (Ne.symm h2)
    exact (h1.grown hg hne).away (p := ⟨p, 0, none⟩) (h1.apart hb h3) _

set_option maxHeartbeats 1000000 in
set_option maxRecDepth 100000 in
theorem fnums_any (l : List Int) (hr : ∀ n ∈ l, 0 ≤ n ∧ n < 9223372036854775808) (hl : l.length ≤ 4096) (v : Value) (base p : Nat) (m : List UInt8) (w : World) (hw : FW w base p m) (hv : RdI w w.heap.size v l) (hm : m.length ≤ 200000000000000) :
    Calls Tryz.prog 40 #[.pointer (some ⟨p, 0, none⟩), v] w fun x w' => x = .returned (.pointer (some ⟨p, 0, none⟩)) ∧ FW w' base p (m ++ encs l) ∧ Below base w w' ∧ Keeps w w' := by
  obtain ⟨A, c, hb, ho, hp, hs⟩ := hw
  have hn := nums_any l (fun n h => (hr n h).2) v w hv (by omega)
  rw [show numsAns l = (encs l, 0) by
    rw [numsAns, if_neg (by omega), if_neg]
    simp only [List.any_eq_true, decide_eq_true_eq, not_exists, not_and]
    intro n h
    have := (hr n h).1
    omega] at hn
  have hlen := encs_len l (fun n h => (hr n h).2)
  obtain ⟨A3, c3, rfl, _, _⟩ := hv.at
  generalize encs l = R at hn hlen ⊢
  have HN := Lib.hid hn; clear hn hr hv
  have HB := Lib.hid hb; clear hb
  have HO := Lib.hid ho; clear ho
  go_enter Tryz.func40, Tryz.ntmps40
  go_wp2_with fail
  refine HN.out.mono ?_
  rintro e w1 ⟨v1, rfl, hr1, hb1⟩
  have hW1 := HB.out.below hb1 HB.out.size
  have hO1 := HO.out.below hb1 (Nat.le_refl _)
  obtain ⟨A1, c1, rfl, _, _⟩ := hr1.at
  have c0 := hW1.cell 0 _ rfl
  have hs1 : base ≤ w1.heap.size := Nat.le_trans hs hb1.size
  have HK1 := Lib.hid (Keeps.of hb1)
  have HB1 := Lib.hid (hb1.mono hs); clear hb1
  have HW1 := Lib.hid hW1; clear hW1
  have HO1 := Lib.hid hO1; clear hO1
  have HR1 := Lib.hid hr1; clear hr1
  go_wp2_with (at_builtin; go_must (refine wpList_addBG rfl _ _ rfl base (.slice A m.length c) m rfl HO1.out w1.heap.size _ R rfl HR1.out (by omega) hs1 ?_))
  intro A2 c2 w2 ho2 hg2
  have hb2 := HW1.out.grown hg2.out (HO1.out.apart HW1.out (by decide))
  have k0 := hb2.cell 0 _ rfl
  have g0 := hb2.frozen 0
  obtain ⟨h1, h2, h3⟩ := FW.stored (l2 := m ++ R) (A2 := A2) (c2 := c2) HW1.out HO1.out hp hs1 (by rw [List.length_append]; exact ho2.out) hg2.out
  have H1 := Lib.hid h1
  have H2 := Lib.hid h2
  have H3 := Lib.hid h3
  clear hb2 h1 h2 h3 ho2 hg2
  simp only [List.length_append] at H1 H2 H3
  go_wp2_with fail
  go_ret
  exact ⟨rfl, H1.out, HB1.out.trans H2.out, HK1.out.trans H3.out⟩

/-- texts as bytes -/
def txts (ks : List K) : List UInt8 := ks.flatMap fun k => encT k.data.toList
theorem txts_append (a b : List K) : txts (a ++ b) = txts a ++ txts b := by simp [txts]
theorem encT_len (k : K) (h : k.size ≤ 65536) : (encT k.data.toList).length ≤ k.size + 9 := by
  rw [encT, List.length_append, data_len]
  have := enc_len9 (n := k.size) (by omega)
  omega
theorem txts_len : ∀ (ks : List K), (∀ k ∈ ks, k.size ≤ 65536) → (txts ks).length ≤ ks.length * 65545
  | [], _ => by simp [txts]
  | k :: r, h => by
    have h1 := txts_len r fun x hx => h x (by simp [hx])
    have h2 := encT_len k (h k (by simp))
    have h3 := h k (by simp)
    rw [show txts (k :: r) = encT k.data.toList ++ txts r from rfl, List.length_append, List.length_cons]
    omega

set_option maxHeartbeats 2000000 in
set_option maxRecDepth 100000 in
theorem ftexts_any (ks : List K) (hs : ∀ k ∈ ks, k.size ≤ 65536) (n : Nat) (hn : ks.length = n) (hn2 : n ≤ 24) (g base p : Nat) (m : List UInt8) (w : World) (hw : FW w base p m) (hg : Whole w g 9 (ks.map .string)) (hm : m.length ≤ 190000000000000) :
    Calls Tryz.prog 60 #[.pointer (some ⟨p, 0, none⟩), .slice (some ⟨g, 0, none⟩) n n] w fun x w' => x = .returned (.pointer (some ⟨p, 0, none⟩)) ∧ FW w' base p (m ++ txts ks) ∧ Below base w w' ∧ Keeps w w' := by
  have HW := Lib.hid hw; clear hw
  have HG := Lib.hid hg; clear hg
  have HS := Lib.hid hs; clear hs
  go_enter Tryz.func60, Tryz.ntmps60
  go_wp2_with fail
  go_loopw [11] (fun iv wr => ∃ (i : Nat) (m' : List UInt8), i ≤ n ∧ iv = .int .i64 i ∧ FW wr base p m' ∧ m' = m ++ txts (ks.take i) ∧ m'.length ≤ m.length + i * 65545 ∧ Whole wr g 9 (ks.map .string) ∧ Below base w wr ∧ Keeps w wr) (fun iv _ => n - (intOf iv).toNat)
  case atStart => exact ⟨0, m, Nat.zero_le _, rfl, HW.out, by simp [txts], by omega, HG.out, Below.refl _ _, Keeps.refl _⟩
  case round =>
    obtain ⟨i, m', hi, rfl, ⟨A, c, hb, ho, hp, hs⟩, hme, hml, hwg, hbw, hk⟩ := hrel
    have HB := Lib.hid hb; clear hb
    have HO := Lib.hid ho; clear ho
    have HME := Lib.hid hme; clear hme
    have HWG := Lib.hid hwg; clear hwg
    have HBW := Lib.hid hbw; clear hbw
    have HK := Lib.hid hk; clear hk
    by_cases hlt : i < n
    · have hlt2 : i < ks.length := by omega
      have hks := HS.out ks[i] (List.getElem_mem hlt2)
      have hx := HWG.out.cell i (.string ks[i]) (by simp [hlt2])
      have htk : txts (ks.take (i + 1)) = txts (ks.take i) ++ encT ks[i].data.toList := by
        rw [List.take_add_one, List.getElem?_eq_getElem hlt2, txts_append]; simp [txts]
      generalize ks[i] = k at hks hx htk
      have hpt := fun W => putText_any [] (.slice none 0 0) k W (Rd.nil _ _) (by simp) (by omega)
      rw [show putTAns [] k = (encT k.data.toList, 0) by rw [putTAns, if_neg (by omega)]; rfl] at hpt
      have hel := encT_len k hks
      have hnew : m' ++ encT k.data.toList = m ++ txts (ks.take (i + 1)) := by rw [HME.out, htk, List.append_assoc]
      generalize encT k.data.toList = R at hpt hel hnew
      have HPT := Lib.hid hpt
      have HNEW := Lib.hid hnew
      clear hpt htk hnew
      go_wp2_with fail
      refine (HPT.out _).mono ?_
      rintro e w1 ⟨v1, rfl, hr1, hb1⟩
      have hW1 := HB.out.below hb1 HB.out.size
      have hO1 := HO.out.below hb1 (Nat.le_refl _)
      have hG1 := HWG.out.below hb1 HWG.out.size
      obtain ⟨A1, c1, rfl, _, _⟩ := hr1.at
      have c0 := hW1.cell 0 _ rfl
      have hs1 : base ≤ w1.heap.size := Nat.le_trans hs hb1.size
      have HK1 := Lib.hid (HK.out.trans (Keeps.of hb1))
      have HB1 := Lib.hid (HBW.out.trans (hb1.mono hs)); clear hb1
      have HW1 := Lib.hid hW1; clear hW1
      have HO1 := Lib.hid hO1; clear hO1
      have HR1 := Lib.hid hr1; clear hr1
      have HG1 := Lib.hid hG1; clear hG1 hx
      go_wp2_with (at_builtin; go_must (refine wpList_addBG rfl _ _ rfl base (.slice A m'.length c) m' rfl HO1.out w1.heap.size _ R rfl HR1.out (by omega) hs1 ?_))
      intro A2 c2 w2 ho2 hg2
      have hb2 := HW1.out.grown hg2.out (HO1.out.apart HW1.out (by decide))
      have k0 := hb2.cell 0 _ rfl
      have g0 := hb2.frozen 0
      obtain ⟨h1, h2, h3⟩ := FW.stored (l2 := m' ++ R) (A2 := A2) (c2 := c2) HW1.out HO1.out hp hs1 (by rw [List.length_append]; exact ho2.out) hg2.out
      have h4 := h3.2 _ _ _ HG1.out (by decide) (by decide)
      have H1 := Lib.hid h1
      have H2 := Lib.hid h2
      have H3 := Lib.hid h3
      have H4 := Lib.hid h4
      clear hb2 h1 h2 h3 h4 ho2 hg2
      simp only [List.length_append] at H1 H2 H3 H4
      go_wp2_with fail
      go_roundw
      case rel => exact ⟨i + 1, m' ++ R, by omega, by go_num, H1.out, HNEW.out, by rw [List.length_append]; omega, H4.out, HB1.out.trans H2.out, HK1.out.trans H3.out⟩
      case measure => simp [intOf]; omega
    · obtain rfl : i = n := by omega
      have hfw : FW wr base p m' := ⟨A, c, HB.out, HO.out, hp, hs⟩
      have hm2 := HME.out
      rw [List.take_of_length_le (by omega)] at hm2
      rw [hm2] at hfw
      have HF := Lib.hid hfw; clear hfw hm2
      go_wp2_with fail
      go_ret
      exact ⟨rfl, HF.out, HBW.out, HK.out⟩
end Go.Proofs.YtgppgecglkellaaGreat
namespace Go.Proofs.YtgppgecglkellaaGreat
open Go.RowKit
attribute [local go_sem] less_eq same_eq le_eq ge_eq gt_eq

theorem spanB_len (s : K × K) (h : s.1.size ≤ 65536 ∧ s.2.size ≤ 65536) : (spanB s).length ≤ 131090 := by
  have h1 := encT_len s.1 h.1
  have h2 := encT_len s.2 h.2
  rw [spanB, List.length_append]; omega
theorem txts_two (x y : K) : txts [x, y] = spanB (x, y) := by simp [txts, spanB]
theorem encs_one (n : Int) : encs [n] = enc n.toNat := by simp [encs]

set_option maxHeartbeats 2000000 in
set_option maxRecDepth 100000 in
theorem fspans_any (l : List (K × K)) (hs : ∀ s ∈ l, s.1.size ≤ 65536 ∧ s.2.size ≤ 65536) (hl : l.length ≤ 4096) (v : Value) (base p : Nat) (m : List UInt8) (w : World) (hw : FW w base p m) (hv : Rd cellsS 2 w base v l) (hm : m.length ≤ 100000000000000) :
    Calls Tryz.prog 41 #[.pointer (some ⟨p, 0, none⟩), v] w fun x w' => x = .returned (.pointer (some ⟨p, 0, none⟩)) ∧ FW w' base p (m ++ listB spanB l) ∧ Below base w w' ∧ Keeps w w' := by
  obtain ⟨A, c, rfl, hc, hi⟩ := RdP.at hv
  have hn := fnums_any [(l.length : Int)] (by simp; omega) (by simp) (.slice (some ⟨w.heap.size, 0, none⟩) 1 1) base p m (w.alloc (.cells #[.int .i64 (l.length : Int)] 3)) (hw.more ((Below.refl _ _).alloc (Nat.le_refl _) _) (Nat.le_refl _)) (by rw [World.size_alloc]; exact RdI.one w _) (by omega)
  rw [encs_one, Int.toNat_natCast] at hn
  have hR : m ++ listB spanB l = (m ++ enc l.length) ++ l.flatMap spanB := by simp [listB]
  rw [hR]
  have hel := enc_len9 (n := l.length) (by omega)
  have hsz := hw.size
  have HB0 := Lib.hid (show Below base w (w.alloc (.cells #[.int .i64 (l.length : Int)] 3)) from (Below.refl _ _).alloc hsz _)
  have hml : (m ++ enc l.length).length ≤ m.length + 9 := by rw [List.length_append]; omega
  generalize m ++ enc l.length = m1 at hn hml ⊢
  have HN := Lib.hid hn; clear hn hw hR hel hv
  have HI := Lib.hid hi; clear hi
  have HS := Lib.hid hs; clear hs
  go_enter Tryz.func41, Tryz.ntmps41
  go_wp2_with fail
  refine HN.out.mono ?_
  rintro e w1 ⟨rfl, hf1, hb1, hk1⟩
  have HF1 := Lib.hid hf1; clear hf1
  have HB1 := Lib.hid (HB0.out.trans hb1); clear hb1
  have HK1 := Lib.hid ((Keeps.alloc _ _).trans hk1); clear hk1
  go_wp2_with fail
  go_loopw [14] (fun iv wr => ∃ (i : Nat) (m' : List UInt8), i ≤ l.length ∧ iv = .int .i64 i ∧ FW wr base p m' ∧ m' = m1 ++ (l.take i).flatMap spanB ∧ m'.length ≤ m1.length + i * 131090 ∧ Below base w wr ∧ Keeps w wr) (fun iv _ => l.length - (intOf iv).toNat)
  case atStart => exact ⟨0, m1, Nat.zero_le _, rfl, HF1.out, by simp, by omega, HB1.out, HK1.out⟩
  case round =>
    obtain ⟨i, m', hi, rfl, hf, hme, hmln, hbw, hk⟩ := hrel
    have hsz2 := hf.size
    have HF := Lib.hid hf; clear hf
    have HME := Lib.hid hme; clear hme
    have HBW := Lib.hid hbw; clear hbw
    have HK := Lib.hid hk; clear hk
    by_cases hlt : i < l.length
    · obtain ⟨b, o, rfl, hbB, k0, k1⟩ := HI.out i hlt
      have hks := HS.out l[i] (List.getElem_mem hlt)
      rw [← HBW.out.cell (p := ⟨b, _, none⟩) hbB] at k0 k1
      have hnew : m' ++ spanB l[i] = m1 ++ (l.take (i + 1)).flatMap spanB := by
        rw [HME.out, List.take_add_one, List.getElem?_eq_getElem hlt, List.flatMap_append, List.append_assoc]; simp
      have hlen := spanB_len l[i] hks
      generalize l[i] = z at k0 k1 hks hnew hlen
      obtain ⟨x, y⟩ := z
      simp only at k0 k1 hks
      have ht := ftexts_any [x, y] (by simp; exact hks) 2 rfl (by omega) (wr.heap.size + 1) base p m' ((wr.alloc (.cells #[.string x, .string y] 52)).alloc (.cells #[.string x, .string y] 9))
        (HF.out.more ((((Below.refl _ _).alloc (Nat.le_refl _) _)).alloc (by simp) _) (Nat.le_refl _)) (by have h := Whole.fresh (wr.alloc (.cells #[.string x, .string y] 52)) 9 [.string x, .string y]; rw [World.size_alloc] at h; exact h) (by omega)
      rw [txts_two] at ht
      generalize spanB (x, y) = R at ht hnew hlen
      have HT := Lib.hid ht; clear ht
      have HNEW := Lib.hid hnew; clear hnew hks
      have HB2 := Lib.hid (show Below base w ((wr.alloc (.cells #[.string x, .string y] 52)).alloc (.cells #[.string x, .string y] 9)) from (HBW.out.alloc hsz2 _).alloc (by rw [World.size_alloc]; omega) _)
      have HK2 := Lib.hid (show Keeps w ((wr.alloc (.cells #[.string x, .string y] 52)).alloc (.cells #[.string x, .string y] 9)) from (HK.out.trans (Keeps.alloc _ _)).trans (Keeps.alloc _ _))
      go_wp2_with fail
      refine HT.out.mono ?_
      rintro e w2 ⟨rfl, hf2, hb2, hk2⟩
      have HF2 := Lib.hid hf2
      have HB3 := Lib.hid (HB2.out.trans hb2)
      have HK3 := Lib.hid (HK2.out.trans hk2)
      clear hf2 hb2 hk2 k0 k1
      go_wp2_with fail
      go_roundw
      case rel => exact ⟨i + 1, m' ++ R, by omega, by go_num, HF2.out, HNEW.out, by rw [List.length_append]; omega, HB3.out, HK3.out⟩
      case measure => simp [intOf]; omega
    · obtain rfl : i = l.length := by omega
      have hf := HF.out
      rw [HME.out, List.take_length] at hf
      have HF3 := Lib.hid hf; clear hf
      go_wp2_with fail
      go_ret
      exact ⟨rfl, HF3.out, HBW.out, HK.out⟩
end Go.Proofs.YtgppgecglkellaaGreat
namespace Go.Proofs.YtgppgecglkellaaGreat
open Go.RowKit
attribute [local go_sem] less_eq same_eq le_eq ge_eq gt_eq

/-- what the steps of a region of the writer's leave -/
def SW (w0 : World) (base : Nat) (W : World) : Prop := Below base w0 W ∧ Keeps w0 W
theorem SW.next {w0 W W' : World} {base : Nat} (h : SW w0 base W) (hb : Below W.heap.size W W') (hs : base ≤ W.heap.size) : SW w0 base W' := ⟨h.1.trans (hb.mono hs), h.2.trans (Keeps.of hb)⟩
theorem SW.keep {w0 W W' : World} {base : Nat} (h : SW w0 base W) (hb : Below base W W') (hk : Keeps W W') : SW w0 base W' := ⟨h.1.trans hb, h.2.trans hk⟩
theorem Below.drewW {w : World} {B : Nat} (n : Nat) : Below B w (w.drewN n) := ⟨rfl, rfl, rfl, Nat.le_refl _, fun _ _ => rfl⟩
theorem SW.drew (w : World) (base : Nat) : SW w base w.drew := ⟨(Below.refl _ _).drew, .of ((Below.refl _ _).drew)⟩
theorem FW.drew {w : World} {base p : Nat} {l : List UInt8} (h : FW w base p l) : FW w.drew base p l := h

theorem chgB_len (c : Chg) (h : 0 ≤ c.kind ∧ c.kind < 9223372036854775808 ∧ c.key.size ≤ 65536 ∧ c.val.size ≤ 65536) : (chgB c).length ≤ 131099 := by
  have h1 := encT_len c.key h.2.2.1
  have h2 := encT_len c.val h.2.2.2
  have h3 := enc_len9 (n := c.kind.toNat) (by omega)
  rw [chgB, List.length_append, List.length_append]; omega

set_option maxHeartbeats 4000000 in
set_option maxRecDepth 100000 in
theorem fchgs_any (l : List Chg) (hs : ∀ c ∈ l, 0 ≤ c.kind ∧ c.kind < 9223372036854775808 ∧ c.key.size ≤ 65536 ∧ c.val.size ≤ 65536) (hl : l.length ≤ 4096) (v : Value) (base p : Nat) (m : List UInt8) (w : World) (hw : FW w base p m) (hv : RdC w base v l) (hm : m.length ≤ 100000000000000) :
    Calls Tryz.prog 42 #[.pointer (some ⟨p, 0, none⟩), v] w fun x w' => x = .returned (.pointer (some ⟨p, 0, none⟩)) ∧ FW w' base p (m ++ listB chgB l) ∧ Below base w w' ∧ Keeps w w' := by
  obtain ⟨A, c, rfl, hc, hi⟩ := RdC.at hv
  have hn := fnums_any [(l.length : Int)] (by simp; omega) (by simp) (.slice (some ⟨w.heap.size, 0, none⟩) 1 1) base p m (w.alloc (.cells #[.int .i64 (l.length : Int)] 3)) (hw.more ((Below.refl _ _).alloc (Nat.le_refl _) _) (Nat.le_refl _)) (by rw [World.size_alloc]; exact RdI.one w _) (by omega)
  rw [encs_one, Int.toNat_natCast] at hn
  have hR : m ++ listB chgB l = (m ++ enc l.length) ++ l.flatMap chgB := by simp [listB]
  rw [hR]
  have hel := enc_len9 (n := l.length) (by omega)
  have hsz := hw.size
  have HB0 := Lib.hid (show Below base w (w.alloc (.cells #[.int .i64 (l.length : Int)] 3)) from (Below.refl _ _).alloc hsz _)
  have hml : (m ++ enc l.length).length ≤ m.length + 9 := by rw [List.length_append]; omega
  generalize m ++ enc l.length = m1 at hn hml ⊢
  have HN := Lib.hid hn; clear hn hw hR hel hv
  have HI := Lib.hid hi; clear hi
  have HS := Lib.hid hs; clear hs
  go_enter Tryz.func42, Tryz.ntmps42
  go_wp2_with fail
  refine HN.out.mono ?_
  rintro e w1 ⟨rfl, hf1, hb1, hk1⟩
  have HF1 := Lib.hid hf1; clear hf1
  have HB1 := Lib.hid (HB0.out.trans hb1); clear hb1
  have HK1 := Lib.hid ((Keeps.alloc _ _).trans hk1); clear hk1
  go_wp2_with fail
  go_loopw [14] (fun iv wr => ∃ (i : Nat) (m' : List UInt8), i ≤ l.length ∧ iv = .int .i64 i ∧ FW wr base p m' ∧ m' = m1 ++ (l.take i).flatMap chgB ∧ m'.length ≤ m1.length + i * 131099 ∧ Below base w wr ∧ Keeps w wr) (fun iv _ => l.length - (intOf iv).toNat)
  case atStart => exact ⟨0, m1, Nat.zero_le _, rfl, HF1.out, by simp, by omega, HB1.out, HK1.out⟩
  case round =>
    obtain ⟨i, m', hi, rfl, hf, hme, hmln, hbw, hk⟩ := hrel
    have hsz2 := hf.size
    have HF := Lib.hid hf; clear hf
    have HME := Lib.hid hme; clear hme
    have HBW := Lib.hid hbw; clear hbw
    have HK := Lib.hid hk; clear hk
    by_cases hlt : i < l.length
    · obtain ⟨b, o, rfl, hbB, k0, k1, k2⟩ := HI.out i hlt
      have hks := HS.out l[i] (List.getElem_mem hlt)
      rw [← HBW.out.cell (p := ⟨b, _, none⟩) hbB] at k0 k1 k2
      have hnew : m' ++ chgB l[i] = m1 ++ (l.take (i + 1)).flatMap chgB := by
        rw [HME.out, List.take_add_one, List.getElem?_eq_getElem hlt, List.flatMap_append, List.append_assoc]; simp
      have hlen := chgB_len l[i] hks
      generalize l[i] = z at k0 k1 k2 hks hnew hlen
      obtain ⟨kz, x, y⟩ := z
      simp only at k0 k1 k2 hks
      have hnum := fun (W : World) (v : Value) (h1 : FW W base p m') (h2 : RdI W W.heap.size v [kz]) => fnums_any [kz] (by simp; omega) (by simp) v base p m' W h1 h2 (by omega)
      rw [encs_one] at hnum
      have hR2 : chgB ⟨kz, x, y⟩ = enc kz.toNat ++ txts [x, y] := by simp [chgB, txts]
      rw [hR2, ← List.append_assoc] at hnew
      rw [hR2, List.length_append] at hlen
      have htxt := fun (W : World) (g : Nat) (h1 : FW W base p (m' ++ enc kz.toNat)) (h2 : Whole W g 9 [.string x, .string y]) => ftexts_any [x, y] (by simp; exact hks.2.2) 2 rfl (by omega) g base p (m' ++ enc kz.toNat) W h1 h2 (by rw [List.length_append]; omega)
      generalize txts [x, y] = R2 at hnew hlen htxt
      generalize enc kz.toNat = R1 at hnum hnew hlen htxt
      obtain ⟨w5, hw5⟩ : ∃ w5, w5 = wr.alloc (.cells #[.int .i64 kz, .string x, .string y] 58) := ⟨_, rfl⟩
      have hb5 : Below wr.heap.size wr w5 := by rw [hw5]; exact (Below.refl _ _).alloc (Nat.le_refl _) _
      have hC : ∀ W, SW w5 base W → Whole W wr.heap.size 58 [.int .i64 kz, .string x, .string y] := fun W hW => hW.2.2 _ _ _ (by rw [hw5]; exact Whole.fresh _ _ _) (by decide) (by decide)
      have HC := Lib.hid hC; clear hC
      have HF5 := Lib.hid (HF.out.more hb5 (Nat.le_refl _))
      have HB5 := Lib.hid (show Below base w w5 from HBW.out.trans (hb5.mono hsz2))
      have HK5 := Lib.hid (show Keeps w w5 from HK.out.trans (Keeps.of hb5))
      have HW5 := Lib.hid hw5
      have HNUM := Lib.hid hnum
      have HTXT := Lib.hid htxt
      have HNEW := Lib.hid hnew
      clear hnum htxt hnew hw5 hb5 hR2 hks HF HBW HK
      go_wp2_with fail
      rw [← HW5.out]
      clear k0 k1 k2
      refine wp_region_planT (SW w5 base) (.take 0 (.take 1 (.take 2 (.take 5 (.take 6 (.take 7 (.take 8 (.fork 3 (.fork 4 (.step 9 (.step 10 .done)) 9 (.step 4 (.step 10 .done))) 9 (.step 3 (.step 4 (.step 10 .done))))))))))) (by kernel_rfl) (by kernel_rfl) (fun _ _ d _ _ h => by cases d <;> exact h) (SW.drew _ _) ?_
      have hS6 : SW w5 base w5.drew := SW.drew _ _
      have hF6 := HF5.out.drew
      generalize w5.drew = w6 at hS6 hF6 ⊢
      have HS6 := Lib.hid hS6
      have HF6 := Lib.hid hF6
      clear hS6 hF6
      refine PlanT.takeI (v := ?_) rfl rfl ?_ ?_; rotate_left; (focus (intro W hW; have hC := HC.out W hW; have k0 := hC.cell 0 _ rfl; have k1 := hC.cell 1 _ rfl; have k2 := hC.cell 2 _ rfl; go_simp; (try with_reducible rfl); done)); (try simp only [Act.put, List.setIfInBounds_toArray, List.set_cons_zero, List.set_cons_succ])
      refine PlanT.takeI (v := ?_) rfl rfl ?_ ?_; rotate_left; (focus (intro W hW; have hC := HC.out W hW; have k0 := hC.cell 0 _ rfl; have k1 := hC.cell 1 _ rfl; have k2 := hC.cell 2 _ rfl; go_simp; (try with_reducible rfl); done)); (try simp only [Act.put, List.setIfInBounds_toArray, List.set_cons_zero, List.set_cons_succ])
      refine PlanT.takeI (v := ?_) rfl rfl ?_ ?_; rotate_left; (focus (intro W hW; have hC := HC.out W hW; have k0 := hC.cell 0 _ rfl; have k1 := hC.cell 1 _ rfl; have k2 := hC.cell 2 _ rfl; go_simp; (try with_reducible rfl); done)); (try simp only [Act.put, List.setIfInBounds_toArray, List.set_cons_zero, List.set_cons_succ])
      refine PlanT.takeI (v := ?_) rfl rfl ?_ ?_; rotate_left; (focus (intro W hW; have hC := HC.out W hW; have k0 := hC.cell 0 _ rfl; have k1 := hC.cell 1 _ rfl; have k2 := hC.cell 2 _ rfl; go_simp; (try with_reducible rfl); done)); (try simp only [Act.put, List.setIfInBounds_toArray, List.set_cons_zero, List.set_cons_succ])
      refine PlanT.takeI (v := ?_) rfl rfl ?_ ?_; rotate_left; (focus (intro W hW; have hC := HC.out W hW; have k0 := hC.cell 0 _ rfl; have k1 := hC.cell 1 _ rfl; have k2 := hC.cell 2 _ rfl; go_simp; (try with_reducible rfl); done)); (try simp only [Act.put, List.setIfInBounds_toArray, List.set_cons_zero, List.set_cons_succ])
      refine PlanT.takeI (v := ?_) rfl rfl ?_ ?_; rotate_left; (focus (intro W hW; have hC := HC.out W hW; have k0 := hC.cell 0 _ rfl; have k1 := hC.cell 1 _ rfl; have k2 := hC.cell 2 _ rfl; go_simp; (try with_reducible rfl); done)); (try simp only [Act.put, List.setIfInBounds_toArray, List.set_cons_zero, List.set_cons_succ])
      refine PlanT.takeI (v := ?_) rfl rfl ?_ ?_; rotate_left; (focus (intro W hW; have hC := HC.out W hW; have k0 := hC.cell 0 _ rfl; have k1 := hC.cell 1 _ rfl; have k2 := hC.cell 2 _ rfl; go_simp; (try with_reducible rfl); done)); (try simp only [Act.put, List.setIfInBounds_toArray, List.set_cons_zero, List.set_cons_succ])
      refine ⟨?_, ?_⟩
      · refine wpOp_stepT rfl rfl (fun Kk hK => ?_)
        go_simp
        obtain ⟨w10, hw10⟩ : ∃ W, W = w6.alloc (.cells #[.int .i64 kz] 3) := ⟨_, rfl⟩
        have hb10 : Below w6.heap.size w6 w10 := by rw [hw10]; exact (Below.refl _ _).alloc (Nat.le_refl _) _
        have hS10 : SW w5 base w10 := HS6.out.next hb10 HF6.out.size
        have hI10 : RdI w10 w10.heap.size (.slice (some ⟨w6.heap.size, 0, none⟩) 1 1) [kz] := by rw [hw10, World.size_alloc]; exact RdI.one _ _
        obtain ⟨g10, hg10⟩ : ∃ g10, g10 = w6.heap.size := ⟨_, rfl⟩
        rw [← hg10] at hI10 hb10 ⊢
        have HI10 := Lib.hid hI10; clear hI10
        have HF10 := Lib.hid (HF6.out.more hb10 (by rw [hg10]; exact Nat.le_refl _))
        have HS10 := Lib.hid hS10
        rw [← hw10]
        clear hb10 hw10 hg10
        refine hK.out _ _ hS10 ?_
        clear hK Kk hS10
        refine ⟨?_, ?_⟩
        · refine wpOp_stepT rfl rfl (fun Kk hK => ?_)
          go_simp
          go_at_call 40
          refine (HNUM.out _ _ HF10.out HI10.out).mono ?_
          rintro e w11 ⟨rfl, hf11, hb11, hk11⟩
          have hS11 : SW w5 base w11 := HS10.out.keep hb11 hk11
          have HF11 := Lib.hid hf11
          have HS11 := Lib.hid hS11
          refine hK.out _ _ hS11 ?_
          clear hK Kk hS11 hf11 hb11 hk11
          refine wpOp_stepT rfl rfl (fun Kk hK => ?_)
          go_simp
          obtain ⟨w12, hw12⟩ : ∃ W, W = w11.alloc (.cells #[.string x, .string y] 9) := ⟨_, rfl⟩
          have hb12 : Below w11.heap.size w11 w12 := by rw [hw12]; exact (Below.refl _ _).alloc (Nat.le_refl _) _
          have hS12 : SW w5 base w12 := HS11.out.next hb12 HF11.out.size
          have hT12 : Whole w12 w11.heap.size 9 [.string x, .string y] := by rw [hw12]; exact Whole.fresh _ _ _
          obtain ⟨g12, hg12⟩ : ∃ g12, g12 = w11.heap.size := ⟨_, rfl⟩
          rw [← hg12] at hT12 hb12 ⊢
          have HT12 := Lib.hid hT12; clear hT12
          have HF12 := Lib.hid (HF11.out.more hb12 (by rw [hg12]; exact Nat.le_refl _))
          have HS12 := Lib.hid hS12
          rw [← hw12]
          clear hb12 hw12 hg12
          refine hK.out _ _ hS12 ?_
          clear hK Kk hS12
          refine wpOp_stepT rfl rfl (fun Kk hK => ?_)
          go_simp
          go_at_call 60
          refine (HTXT.out _ _ HF12.out HT12.out).mono ?_
          rintro e w13 ⟨rfl, hf13, hb13, hk13⟩
          have hS13 : SW w5 base w13 := HS12.out.keep hb13 hk13
          have HF13 := Lib.hid hf13
          have HS13 := Lib.hid hS13
          refine hK.out _ _ hS13 ?_
          clear hK Kk hS13 hf13 hb13 hk13
          simp only [PlanT]
          go_wp2_with fail
          go_roundw
          case rel => exact ⟨i + 1, m' ++ R1 ++ R2, by omega, by go_num, HF13.out, HNEW.out, by rw [List.length_append, List.length_append]; omega, HB5.out.trans HS13.out.1, HK5.out.trans HS13.out.2⟩
          case measure => simp [intOf]; omega
        · refine wpOp_stepT rfl rfl (fun Kk hK => ?_)
          go_simp
          obtain ⟨w14, hw14⟩ : ∃ W, W = w10.alloc (.cells #[.string x, .string y] 9) := ⟨_, rfl⟩
          have hb14 : Below w10.heap.size w10 w14 := by rw [hw14]; exact (Below.refl _ _).alloc (Nat.le_refl _) _
          have hS14 : SW w5 base w14 := HS10.out.next hb14 HF10.out.size
          have hT14 : Whole w14 w10.heap.size 9 [.string x, .string y] := by rw [hw14]; exact Whole.fresh _ _ _
          obtain ⟨g14, hg14⟩ : ∃ g14, g14 = w10.heap.size := ⟨_, rfl⟩
          rw [← hg14] at hT14 hb14 ⊢
          have HT14 := Lib.hid hT14; clear hT14
          have HF14 := Lib.hid (HF10.out.more hb14 (by rw [hg14]; exact Nat.le_refl _))
          have HS14 := Lib.hid hS14
          rw [← hw14]
          have HI14 := Lib.hid (show RdI w14 w14.heap.size (.slice (some ⟨g10, 0, none⟩) 1 1) [kz] from HI10.out.next (by rw [← hg14]; exact hb14))
          clear hb14 hw14 hg14
          refine hK.out _ _ hS14 ?_
          clear hK Kk hS14
          refine wpOp_stepT rfl rfl (fun Kk hK => ?_)
          go_simp
          go_at_call 40
          refine (HNUM.out _ _ HF14.out HI14.out).mono ?_
          rintro e w15 ⟨rfl, hf15, hb15, hk15⟩
          have hS15 : SW w5 base w15 := HS14.out.keep hb15 hk15
          have HF15 := Lib.hid hf15
          have HS15 := Lib.hid hS15
          have HT15 := Lib.hid (hk15.2 _ _ _ HT14.out (by decide) (by decide))
          refine hK.out _ _ hS15 ?_
          clear hK Kk hS15 hf15 hb15 hk15
          refine wpOp_stepT rfl rfl (fun Kk hK => ?_)
          go_simp
          go_at_call 60
          refine (HTXT.out _ _ HF15.out HT15.out).mono ?_
          rintro e w16 ⟨rfl, hf16, hb16, hk16⟩
          have hS16 : SW w5 base w16 := HS15.out.keep hb16 hk16
          have HF16 := Lib.hid hf16
          have HS16 := Lib.hid hS16
          refine hK.out _ _ hS16 ?_
          clear hK Kk hS16 hf16 hb16 hk16
          simp only [PlanT]
          go_wp2_with fail
          go_roundw
          case rel => exact ⟨i + 1, m' ++ R1 ++ R2, by omega, by go_num, HF16.out, HNEW.out, by rw [List.length_append, List.length_append]; omega, HB5.out.trans HS16.out.1, HK5.out.trans HS16.out.2⟩
          case measure => simp [intOf]; omega
      · refine wpOp_stepT rfl rfl (fun Kk hK => ?_)
        go_simp
        obtain ⟨w17, hw17⟩ : ∃ W, W = w6.alloc (.cells #[.string x, .string y] 9) := ⟨_, rfl⟩
        have hb17 : Below w6.heap.size w6 w17 := by rw [hw17]; exact (Below.refl _ _).alloc (Nat.le_refl _) _
        have hS17 : SW w5 base w17 := HS6.out.next hb17 HF6.out.size
        have hT17 : Whole w17 w6.heap.size 9 [.string x, .string y] := by rw [hw17]; exact Whole.fresh _ _ _
        obtain ⟨g17, hg17⟩ : ∃ g17, g17 = w6.heap.size := ⟨_, rfl⟩
        rw [← hg17] at hT17 hb17 ⊢
        have HT17 := Lib.hid hT17; clear hT17
        have HF17 := Lib.hid (HF6.out.more hb17 (by rw [hg17]; exact Nat.le_refl _))
        have HS17 := Lib.hid hS17
        rw [← hw17]
        clear hb17 hw17 hg17
        refine hK.out _ _ hS17 ?_
        clear hK Kk hS17
        refine wpOp_stepT rfl rfl (fun Kk hK => ?_)
        go_simp
        obtain ⟨w18, hw18⟩ : ∃ W, W = w17.alloc (.cells #[.int .i64 kz] 3) := ⟨_, rfl⟩
        have hb18 : Below w17.heap.size w17 w18 := by rw [hw18]; exact (Below.refl _ _).alloc (Nat.le_refl _) _
        have hS18 : SW w5 base w18 := HS17.out.next hb18 HF17.out.size
        have hI18 : RdI w18 w18.heap.size (.slice (some ⟨w17.heap.size, 0, none⟩) 1 1) [kz] := by rw [hw18, World.size_alloc]; exact RdI.one _ _
        obtain ⟨g18, hg18⟩ : ∃ g18, g18 = w17.heap.size := ⟨_, rfl⟩
        rw [← hg18] at hI18 hb18 ⊢
        have HI18 := Lib.hid hI18; clear hI18
        have HF18 := Lib.hid (HF17.out.more hb18 (by rw [hg18]; exact Nat.le_refl _))
        have HS18 := Lib.hid hS18
        rw [← hw18]
        have HT18 := Lib.hid (HT17.out.below hb18 (by rw [hg18]; exact HT17.out.size))
        clear hb18 hw18 hg18
        refine hK.out _ _ hS18 ?_
        clear hK Kk hS18
        refine wpOp_stepT rfl rfl (fun Kk hK => ?_)
        go_simp
        go_at_call 40
        refine (HNUM.out _ _ HF18.out HI18.out).mono ?_
        rintro e w19 ⟨rfl, hf19, hb19, hk19⟩
        have hS19 : SW w5 base w19 := HS18.out.keep hb19 hk19
        have HF19 := Lib.hid hf19
        have HS19 := Lib.hid hS19
        have HT19 := Lib.hid (hk19.2 _ _ _ HT18.out (by decide) (by decide))
        refine hK.out _ _ hS19 ?_
        clear hK Kk hS19 hf19 hb19 hk19
        refine wpOp_stepT rfl rfl (fun Kk hK => ?_)
        go_simp
        go_at_call 60
        refine (HTXT.out _ _ HF19.out HT19.out).mono ?_
        rintro e w20 ⟨rfl, hf20, hb20, hk20⟩
        have hS20 : SW w5 base w20 := HS19.out.keep hb20 hk20
        have HF20 := Lib.hid hf20
        have HS20 := Lib.hid hS20
        refine hK.out _ _ hS20 ?_
        clear hK Kk hS20 hf20 hb20 hk20
        simp only [PlanT]
        go_wp2_with fail
        go_roundw
        case rel => exact ⟨i + 1, m' ++ R1 ++ R2, by omega, by go_num, HF20.out, HNEW.out, by rw [List.length_append, List.length_append]; omega, HB5.out.trans HS20.out.1, HK5.out.trans HS20.out.2⟩
        case measure => simp [intOf]; omega
    · obtain rfl : i = l.length := by omega
      have hf := HF.out
      rw [HME.out, List.take_length] at hf
      have HF3 := Lib.hid hf; clear hf
      go_wp2_with fail
      go_ret
      exact ⟨rfl, HF3.out, HBW.out, HK.out⟩
end Go.Proofs.YtgppgecglkellaaGreat
namespace Go.Proofs.YtgppgecglkellaaGreat
open Go.RowKit
attribute [local go_sem] less_eq same_eq le_eq ge_eq gt_eq
/-- numbers laid as a literal -/
theorem RdI.lit (W : World) (l : List Int) : RdI (W.alloc (.cells (l.map (.int .i64)).toArray 3)) (W.heap.size + 1) (.slice (some ⟨W.heap.size, 0, none⟩) l.length l.length) l := by
  have h := Whole.rd (enc := encI) (k := 1) encI_len (l := l) (Whole.fresh W 3 (flatG encI l))
  have e : flatG encI l = l.map (.int .i64) := by
    induction l with
    | nil => rfl
    | cons a r ih => rw [show a :: r = [a] ++ r from rfl, flatG_append, List.map_append, ih (Whole.rd encI_len (Whole.fresh W 3 _))]; rfl
  rw [e] at h
  exact h
set_option maxHeartbeats 1000000 in
set_option maxRecDepth 100000 in
theorem from0_any (l : List Int) (v : Value) (w : World) (B : Nat) (hv : RdI w B v l) (hl : l.length < 4611686018427387904) :
    Calls Tryz.prog 56 #[v] w fun e w' => e = .returned (.bool (decide (∀ n ∈ l, 0 ≤ n))) ∧ w' = w := by
  obtain ⟨A, c, rfl, hc, hi⟩ := hv.at
  obtain ⟨D, hD⟩ : ∃ D, D = decide (∀ n ∈ l, 0 ≤ n) := ⟨_, rfl⟩
  rw [← hD]
  have HD := Lib.hid hD; clear hD
  have HI := Lib.hid hi; clear hi
  clear hv
  go_enter Tryz.func56, Tryz.ntmps56
  go_wp2_with fail
  go_loop [7] (fun iv => ∃ i : Nat, i ≤ l.length ∧ iv = .int .i64 i ∧ Hid (∀ n ∈ l.take i, 0 ≤ n)) (fun iv => l.length - (intOf iv).toNat)
  case atStart => exact ⟨0, Nat.zero_le _, rfl, Lib.hid (by simp)⟩
  case round =>
    obtain ⟨i, hil, rfl, HALL⟩ := hrel
    by_cases hlt : i < l.length
    · obtain ⟨b, o, rfl, hbB, h1⟩ := HI.out i hlt
      have hyes : 0 ≤ l[i] → ∀ n ∈ l.take (i + 1), 0 ≤ n := fun h n hn => by
        rw [List.take_add_one, List.getElem?_eq_getElem hlt, List.mem_append] at hn
        rcases hn with hn | hn
        · exact HALL.out n hn
        · simp only [Option.toList_some, List.mem_singleton] at hn; rw [hn]; exact h
      have hno : ¬ (0 ≤ l[i]) → D = false := fun h => by rw [HD.out]; exact decide_eq_false fun hall => h (hall _ (List.getElem_mem hlt))
      generalize l[i] = z at h1 hyes hno
      have HY := Lib.hid hyes; clear hyes
      have HN := Lib.hid hno; clear hno
      by_cases hz : z < 0
      · go_wp2_with fail
        go_ret
        exact ⟨by rw [HN.out (by omega)]; rfl, rfl⟩
      · go_wp2_with fail
        go_round
        case rel => exact ⟨i + 1, by omega, by go_num, Lib.hid (HY.out (by omega))⟩
        case measure => simp [intOf]; omega
    · have hd : D = true := by
        rw [HD.out]
        have := HALL.out
        rw [List.take_of_length_le (by omega)] at this
        exact decide_eq_true this
      have HD2 := Lib.hid hd; clear hd
      go_wp2_with fail
      go_ret
      exact ⟨by rw [HD2.out]; rfl, rfl⟩
set_option maxHeartbeats 2000000 in
set_option maxRecDepth 100000 in
theorem soundRd_any (l : List (K × K)) (hs : ∀ s ∈ l, s.1.size < 4611686018427387904 ∧ s.2.size < 4611686018427387904) (v : Value) (w : World) (hv : RdP w w.heap.size v l) (hl : l.length < 4611686018427387904) :
    Calls Tryz.prog 57 #[v] w fun e w' => e = .returned (.bool (decide (l.length ≤ 24 ∧ ∀ s ∈ l, okSpan s))) ∧ Below w.heap.size w w' := by
  obtain ⟨A, c, rfl, hc, hi⟩ := hv.at
  obtain ⟨D, hD⟩ : ∃ D, D = decide (l.length ≤ 24 ∧ ∀ s ∈ l, okSpan s) := ⟨_, rfl⟩
  rw [← hD]
  have HD := Lib.hid hD; clear hD
  have HI := Lib.hid hi; clear hi
  have HS := Lib.hid hs; clear hs
  clear hv
  by_cases hbig : (24 : Int) < (l.length : Int)
  · have hd : D = false := by rw [HD.out]; exact decide_eq_false fun h => by have := h.1; omega
    subst hd
    clear HD
    go_enter Tryz.func57, Tryz.ntmps57
    go_wp2_with fail
    go_ret
    exact ⟨rfl, Below.refl _ _⟩
  obtain ⟨g, hg⟩ : ∃ g, g = w.heap.size := ⟨_, rfl⟩
  rw [← hg] at HI ⊢
  have HG := Lib.hid hg; clear hg
  go_enter Tryz.func57, Tryz.ntmps57
  go_wp2_with fail
  go_loopw [10] (fun iv wr => ∃ i : Nat, i ≤ l.length ∧ iv = .int .i64 i ∧ Below g w wr ∧ g ≤ wr.heap.size ∧ Hid (∀ s ∈ l.take i, okSpan s)) (fun iv _ => l.length - (intOf iv).toNat)
  case atStart => exact ⟨0, Nat.zero_le _, rfl, Below.refl _ _, by rw [HG.out]; exact Nat.le_refl _, Lib.hid (by simp)⟩
  case round =>
    obtain ⟨i, hil, rfl, hbw, hgs, HALL⟩ := hrel
    have HB := Lib.hid hbw; clear hbw
    by_cases hlt : i < l.length
    · obtain ⟨b, o, rfl, hbB, k0, k1⟩ := HI.out i hlt
      rw [← HB.out.cell (p := ⟨b, _, none⟩) hbB] at k0 k1
      have hsm := HS.out l[i] (List.getElem_mem hlt)
      have hyes : okSpan l[i] → ∀ s ∈ l.take (i + 1), okSpan s := fun h n hn => by
        rw [List.take_add_one, List.getElem?_eq_getElem hlt, List.mem_append] at hn
        rcases hn with hn | hn
        · exact HALL.out n hn
        · simp only [Option.toList_some, List.mem_singleton] at hn; rw [hn]; exact h
      have hno : ¬ okSpan l[i] → D = false := fun h => by rw [HD.out]; exact decide_eq_false fun hall => h (hall.2 _ (List.getElem_mem hlt))
      generalize l[i] = z at k0 k1 hyes hno hsm
      obtain ⟨x, y⟩ := z
      unfold okSpan at hyes hno
      simp only at k0 k1 hsm hyes hno
      have HY := Lib.hid hyes; clear hyes
      have HN := Lib.hid hno; clear hno
      have HB2 := Lib.hid (show Below g w (wr.alloc (.cells #[.string x, .string y] 52)) from HB.out.alloc hgs _)
      by_cases ha : (17 : Int) < (x.size : Int)
      · go_wp2_with fail
        go_ret
        exact ⟨by rw [HN.out (fun h => by omega)]; rfl, HB2.out⟩
      by_cases hb : (17 : Int) < (y.size : Int)
      · go_wp2_with fail
        go_ret
        exact ⟨by rw [HN.out (fun h => by omega)]; rfl, HB2.out⟩
      by_cases hxy : y < x
      · go_wp2_with fail
        go_ret
        exact ⟨by rw [HN.out (fun h => h.2.2 hxy)]; rfl, HB2.out⟩
      · have hok := HY.out ⟨by omega, by omega, hxy⟩
        have HOK := Lib.hid hok; clear hok
        go_wp2_with fail
        go_roundw
        case rel => exact ⟨i + 1, by omega, by go_num, HB2.out, by simp; omega, Lib.hid HOK.out⟩
        case measure => simp [intOf]; omega
    · have hd : D = true := by
        rw [HD.out]
        have := HALL.out
        rw [List.take_of_length_le (by omega)] at this
        exact decide_eq_true ⟨by omega, this⟩
      have HD2 := Lib.hid hd; clear hd
      go_wp2_with fail
      go_ret
      exact ⟨by rw [HD2.out]; rfl, HB.out⟩
theorem allAns_mem_zero {l : List Chg} (h : ∀ c ∈ l, checkAns c = 0) : allAns l = 0 := by
  induction l with
  | nil => rfl
  | cons x r ih => rw [allAns, if_pos (h x (by simp))]; exact ih fun c hc => h c (by simp [hc])
set_option maxHeartbeats 2000000 in
set_option maxRecDepth 100000 in
theorem soundCh_any (l : List Chg) (hs : ∀ c ∈ l, smallC c) (most : Nat) (hm : most ≤ 4096) (v : Value) (w : World) (hv : RdC w w.heap.size v l) (hl : l.length < 4611686018427387904) :
    Calls Tryz.prog 58 #[v, .int .i64 (most : Int)] w fun e w' => e = .returned (.bool (decide (l.length ≤ most ∧ allAns l = 0))) ∧ Below w.heap.size w w' := by
  obtain ⟨A, c, rfl, hc, hi⟩ := hv.at
  obtain ⟨D, hD⟩ : ∃ D, D = decide (l.length ≤ most ∧ allAns l = 0) := ⟨_, rfl⟩
  rw [← hD]
  have HD := Lib.hid hD; clear hD
  have HI := Lib.hid hi; clear hi
  have HS := Lib.hid hs; clear hs
  clear hv
  by_cases hbig : (most : Int) < (l.length : Int)
  · have hd : D = false := by rw [HD.out]; exact decide_eq_false fun h => by have := h.1; omega
    subst hd
    clear HD
    go_enter Tryz.func58, Tryz.ntmps58
    go_wp2_with fail
    go_ret
    exact ⟨rfl, Below.refl _ _⟩
  obtain ⟨g, hg⟩ : ∃ g, g = w.heap.size := ⟨_, rfl⟩
  rw [← hg] at HI ⊢
  have HG := Lib.hid hg; clear hg
  go_enter Tryz.func58, Tryz.ntmps58
  go_wp2_with fail
  go_loopw [13] (fun iv wr => ∃ i : Nat, i ≤ l.length ∧ iv = .int .i64 i ∧ Below g w wr ∧ g ≤ wr.heap.size ∧ Hid (∀ s ∈ l.take i, checkAns s = 0)) (fun iv _ => l.length - (intOf iv).toNat)
  case atStart => exact ⟨0, Nat.zero_le _, rfl, Below.refl _ _, by rw [HG.out]; exact Nat.le_refl _, Lib.hid (by simp)⟩
  case round =>
    obtain ⟨i, hil, rfl, hbw, hgs, HALL⟩ := hrel
    have HB := Lib.hid hbw; clear hbw
    by_cases hlt : i < l.length
    · obtain ⟨b, o, rfl, hbB, k0, k1, k2⟩ := HI.out i hlt
      rw [← HB.out.cell (p := ⟨b, _, none⟩) hbB] at k0 k1 k2
      have hsm := HS.out l[i] (List.getElem_mem hlt)
      have hyes : checkAns l[i] = 0 → ∀ s ∈ l.take (i + 1), checkAns s = 0 := fun h n hn => by
        rw [List.take_add_one, List.getElem?_eq_getElem hlt, List.mem_append] at hn
        rcases hn with hn | hn
        · exact HALL.out n hn
        · simp only [Option.toList_some, List.mem_singleton] at hn; rw [hn]; exact h
      have hno : ¬ checkAns l[i] = 0 → D = false := fun h => by rw [HD.out]; exact decide_eq_false fun hall => h (allAns_all hall.2 _ (List.getElem_mem hlt))
      generalize l[i] = z at k0 k1 k2 hyes hno hsm
      have hck := fun W => pcheck_any z W (by have := hsm.1; omega) (by have := hsm.2; omega)
      unfold cval at hck
      generalize checkAns z = q at hck hyes hno
      obtain ⟨kz, x, y⟩ := z
      simp only at k0 k1 k2 hck
      have HY := Lib.hid hyes; clear hyes
      have HN := Lib.hid hno; clear hno
      have HK := Lib.hid hck; clear hck hsm
      have HB2 := Lib.hid (show Below g w (wr.alloc (.cells #[.int .i64 kz, .string x, .string y] 58)) from HB.out.alloc hgs _)
      go_wp2_with fail
      refine (HK.out _).mono ?_
      rintro e w2 ⟨rfl, hb2⟩
      have hgs2 : g ≤ w2.heap.size := by have := hb2.size; simp at this; omega
      have HB3 := Lib.hid (show Below g w w2 from HB2.out.trans (hb2.mono (by simp; omega)))
      clear hb2 k0 k1 k2
      by_cases hq : q = 0
      · subst hq
        have hok := HY.out rfl
        have HOK := Lib.hid hok; clear hok
        go_wp2_with fail
        go_roundw
        case rel => exact ⟨i + 1, by omega, by go_num, HB3.out, hgs2, Lib.hid HOK.out⟩
        case measure => simp [intOf]; omega
      · go_wp2_with fail
        go_ret
        exact ⟨by rw [HN.out hq]; rfl, HB3.out⟩
    · have hd : D = true := by
        rw [HD.out]
        have := HALL.out
        rw [List.take_of_length_le (by omega)] at this
        exact decide_eq_true ⟨by omega, allAns_mem_zero this⟩
      have HD2 := Lib.hid hd; clear hd
      go_wp2_with fail
      go_ret
      exact ⟨by rw [HD2.out]; rfl, HB.out⟩
set_option maxHeartbeats 2000000 in
set_option maxRecDepth 100000 in
theorem soundT_any (t : Txn) (hft : fitT t) (v1 v2 : Value) (w : World) (hv1 : RdP w w.heap.size v1 t.reads) (hv2 : RdC w w.heap.size v2 t.chgs) :
    Calls Tryz.prog 39 #[tval t v1 v2] w fun e w' => e = .returned (.bool (decide (soundT t))) ∧ Below w.heap.size w w' := by
  obtain ⟨h1, h2, h3, h4⟩ := hft
  obtain ⟨read, reads, chgs⟩ := t
  obtain ⟨R, hR⟩ : ∃ R, R = decide (soundT ⟨read, reads, chgs⟩) := ⟨_, rfl⟩
  rw [← hR]
  unfold soundT at hR
  unfold tval
  simp only at hR h1 h2 h3 h4 hv1 hv2 ⊢
  have hF := fun W B h => from0_any [read] (.slice (some ⟨w.heap.size + 1, 0, none⟩) 1 1) W B h (by simp)
  have hi1 := RdI.lit (w.alloc (.cells #[.int .i64 read, v1, v2] 47)) [read]
  simp only [World.size_alloc, List.map_cons, List.map_nil, List.length_cons, List.length_nil] at hi1
  have HF := Lib.hid (hF _ _ hi1); clear hF hi1
  have hb2 : Below w.heap.size w ((w.alloc (.cells #[.int .i64 read, v1, v2] 47)).alloc (.cells #[.int .i64 read] 3)) := ((Below.refl _ _).alloc (Nat.le_refl _) _).alloc (by simp) _
  have hA := soundRd_any reads h2 v1 _ (hv1.next hb2) h1
  have hB := fun W (h : Below w.heap.size w W) => soundCh_any chgs h4 24 (by omega) v2 W (hv2.next h) h3
  obtain ⟨D1, hD1⟩ : ∃ D1, D1 = decide (reads.length ≤ 24 ∧ ∀ s ∈ reads, okSpan s) := ⟨_, rfl⟩
  obtain ⟨D2, hD2⟩ : ∃ D2, D2 = decide (chgs.length ≤ 24 ∧ allAns chgs = 0) := ⟨_, rfl⟩
  rw [← hD1] at hA
  rw [← hD2] at hB
  have e0 : decide (∀ n ∈ [read], 0 ≤ n) = decide (0 ≤ read) := by simp
  rw [e0] at HF
  have hno : ¬ (0 ≤ read ∧ D1 = true ∧ D2 = true) → R = false := fun h => by
    rw [hR]
    exact decide_eq_false fun hs => h ⟨hs.1, by rw [hD1]; exact decide_eq_true ⟨hs.2.1, hs.2.2.1⟩, by rw [hD2]; exact decide_eq_true ⟨hs.2.2.2.1, hs.2.2.2.2⟩⟩
  have hyes : 0 ≤ read ∧ D1 = true ∧ D2 = true → R = true := fun h => by
    rw [hR]
    have h1 := of_decide_eq_true (hD1 ▸ h.2.1)
    have h2 := of_decide_eq_true (hD2 ▸ h.2.2)
    exact decide_eq_true ⟨h.1, h1.1, h1.2, h2.1, h2.2⟩
  have HNO := Lib.hid hno; clear hno
  have HYES := Lib.hid hyes; clear hyes
  have HA := Lib.hid hA; clear hA
  have HB := Lib.hid hB; clear hB
  have HB2 := Lib.hid hb2; clear hb2
  obtain ⟨A1, c1, rfl, _, _⟩ := hv1.at
  obtain ⟨A2, c2, rfl, _, _⟩ := hv2.at
  clear hR hD1 hD2 e0 hv1 hv2 h2 h4
  go_enter Tryz.func39, Tryz.ntmps39
  go_wp2_with fail
  refine HF.out.mono ?_
  rintro e w1 ⟨rfl, rfl⟩
  by_cases h0 : read < 0
  · rw [decide_eq_false (show ¬ 0 ≤ read by omega)]
    go_wp2_with fail
    go_ret
    exact ⟨by rw [HNO.out (by omega)]; rfl, HB2.out⟩
  · rw [decide_eq_true (show 0 ≤ read by omega)]
    go_wp2_with fail
    refine HA.out.mono ?_
    rintro e w3 ⟨rfl, hb3⟩
    have hb4 : Below w.heap.size w w3 := HB2.out.trans (hb3.mono (by simp; omega))
    have hB3 := HB.out w3 hb4
    have HB4 := Lib.hid hb4
    have HC := Lib.hid hB3
    have l1 : w.heap.size < w3.heap.size := by have := hb3.size; simp at this; omega
    have q0 : w3.cell? ⟨w.heap.size, 2, none⟩ = some (.slice A2 chgs.length c2) := by
      rw [hb3.cell (p := ⟨w.heap.size, 2, none⟩) (by simp; omega)]
      rw [((Below.refl (w.heap.size + 1) (w.alloc (.cells #[.int .i64 read, .slice A1 reads.length c1, .slice A2 chgs.length c2] 47))).alloc (by simp) _).cell (p := ⟨w.heap.size, 2, none⟩) (by simp)]
      exact World.cell?_alloc_at _ _ _ _ rfl
    clear hb3 hb4 hB3
    cases D1 with
    | false =>
      go_wp2_with fail
      go_ret
      exact ⟨by rw [HNO.out (by simp)]; rfl, HB4.out⟩
    | true =>
      go_wp2_with fail
      refine HC.out.mono ?_
      rintro e w4 ⟨rfl, hb5⟩
      have HB5 := Lib.hid (show Below w.heap.size w w4 from HB4.out.trans (hb5.mono (by omega))); clear hb5
      cases D2 with
      | false =>
        go_wp2_with fail
        go_ret
        exact ⟨by rw [HNO.out (by simp)]; rfl, HB5.out⟩
      | true =>
        go_wp2_with fail
        go_ret
        exact ⟨by rw [HYES.out (by simp only [and_true]; omega)]; rfl, HB5.out⟩
theorem FW.fresh (w : World) (base : Nat) (h : base ≤ w.heap.size) : FW (w.alloc (.cells #[.slice none 0 0] 95)) base w.heap.size [] :=
  ⟨none, 0, Whole.fresh w _ _, Own.nil _ _, h, by simp; omega⟩
theorem listB_len {α : Type} {f : α → List UInt8} {c : Nat} {l : List α} (hl : l.length < 9223372036854775808) (h : ∀ x ∈ l, (f x).length ≤ c) : (listB f l).length ≤ 9 + l.length * c := by
  have h1 := enc_len9 hl
  have h2 : ∀ l : List α, (∀ x ∈ l, (f x).length ≤ c) → (l.flatMap f).length ≤ l.length * c := by
    intro l
    induction l with
    | nil => simp
    | cons a r ih =>
      intro h
      have := ih fun x hx => h x (by simp [hx])
      have := h a (by simp)
      rw [List.flatMap_cons, List.length_append, List.length_cons, Nat.add_mul]
      omega
  have := h2 l h
  rw [listB, List.length_append]; omega
theorem okC {c : Chg} (h : checkAns c = 0) : 0 ≤ c.kind ∧ c.kind < 9223372036854775808 ∧ c.key.size ≤ 65536 ∧ c.val.size ≤ 65536 := by
  unfold checkAns at h
  split at h
  · split at h
    · cases h
    · omega
  · split at h
    · split at h
      · cases h
      · omega
    · split at h
      · split at h
        · cases h
        · omega
      · cases h
set_option maxHeartbeats 2000000 in
set_option maxRecDepth 100000 in
theorem pputT_bad (t : Txn) (hs : ¬ soundT t) (_hr : t.read < 9223372036854775808) (hft : fitT t) (v1 v2 : Value) (w : World) (hv1 : RdP w w.heap.size v1 t.reads) (hv2 : RdC w w.heap.size v2 t.chgs) :
    Calls Tryz.prog 31 #[tval t v1 v2] w fun e w' => e = .returned (.tuple #[.slice none 0 0, .int .i64 2]) ∧ Below w.heap.size w w' := by
  have hb1 : Below w.heap.size w (w.alloc (.cells #[.int .i64 t.read, v1, v2] 47)) := (Below.refl _ _).alloc (Nat.le_refl _) _
  have hsnd := soundT_any t hft v1 v2 (w.alloc (.cells #[.int .i64 t.read, v1, v2] 47)) (hv1.next hb1) (hv2.next hb1)
  have HV1 := Lib.hid (Whole.fresh w 47 [.int .i64 t.read, v1, v2])
  have HB1 := Lib.hid hb1; clear hb1
  have HVA := Lib.hid hv1
  have HVB := Lib.hid hv2
  obtain ⟨A1, cc1, hvv1, _, _⟩ := hv1.at
  obtain ⟨A2, cc2, hvv2, _, _⟩ := hv2.at
  subst hvv1 hvv2
  clear hv1 hv2
  unfold tval at hsnd ⊢
  rw [decide_eq_false hs] at hsnd
  have HSND := Lib.hid hsnd; clear hsnd
  go_enter Tryz.func31, Tryz.ntmps31
  go_wp2_with fail
  refine HSND.out.mono ?_
  rintro e w2 ⟨rfl, hb2⟩
  have HB2 := Lib.hid (HB1.out.trans (hb2.mono (by simp))); clear hb2
  go_wp2_with fail
  go_ret2
  exact ⟨rfl, HB2.out⟩
set_option maxHeartbeats 8000000 in
set_option maxRecDepth 100000 in
theorem pputT_ok (t : Txn) (hs : soundT t) (hr : t.read < 9223372036854775808) (hft : fitT t) (v1 v2 : Value) (w : World) (hv1 : RdP w w.heap.size v1 t.reads) (hv2 : RdC w w.heap.size v2 t.chgs) :
    Calls Tryz.prog 31 #[tval t v1 v2] w fun e w' => ∃ v', e = .returned (.tuple #[v', .int .i64 0]) ∧ RdB w' w'.heap.size v' (txnB t) ∧ Below w.heap.size w w' := by
  have hb1 : Below w.heap.size w (w.alloc (.cells #[.int .i64 t.read, v1, v2] 47)) := (Below.refl _ _).alloc (Nat.le_refl _) _
  have hsnd := soundT_any t hft v1 v2 (w.alloc (.cells #[.int .i64 t.read, v1, v2] 47)) (hv1.next hb1) (hv2.next hb1)
  have HV1 := Lib.hid (Whole.fresh w 47 [.int .i64 t.read, v1, v2])
  have HB1 := Lib.hid hb1; clear hb1
  have HVA := Lib.hid hv1
  have HVB := Lib.hid hv2
  obtain ⟨A1, cc1, hvv1, _, _⟩ := hv1.at
  obtain ⟨A2, cc2, hvv2, _, _⟩ := hv2.at
  subst hvv1 hvv2
  clear hv1 hv2
  unfold tval at hsnd ⊢
  rw [decide_eq_true hs] at hsnd
  have HSND := Lib.hid hsnd; clear hsnd
  have hin : txnB t = (([] ++ encs [t.read]) ++ listB spanB t.reads) ++ listB chgB t.chgs := by simp [txnB, encs]
  have hs2 := hs
  obtain ⟨s1, s2, s3, s4, s5⟩ := hs2
  have hsp : ∀ s ∈ t.reads, s.1.size ≤ 65536 ∧ s.2.size ≤ 65536 := fun s h => by have := s3 s h; unfold okSpan at this; omega
  have hch : ∀ c ∈ t.chgs, 0 ≤ c.kind ∧ c.kind < 9223372036854775808 ∧ c.key.size ≤ 65536 ∧ c.val.size ≤ 65536 := fun c h => okC (allAns_all s5 c h)
  have hel := encs_len [t.read] (by simpa using hr)
  have hl2 := listB_len (f := spanB) (c := 131090) (by omega) (fun s h => spanB_len s (hsp s h))
  have hnum := fun (W : World) (v : Value) (base p : Nat) (h1 : FW W base p []) (h2 : RdI W W.heap.size v [t.read]) => fnums_any [t.read] (by simp; omega) (by simp) v base p [] W h1 h2 (by simp)
  have h1l : ([] ++ encs [t.read]).length ≤ 9 := by simpa using hel
  generalize [] ++ encs [t.read] = L1 at hin hnum h1l
  have hspn := fun (W : World) (base p : Nat) (h1 : FW W base p L1) (h2 : Rd cellsS 2 W base (.slice A1 t.reads.length cc1) t.reads) => fspans_any t.reads hsp (by omega) _ base p L1 W h1 h2 (by omega)
  have h2l : (L1 ++ listB spanB t.reads).length ≤ 4000000 := by rw [List.length_append]; omega
  generalize L1 ++ listB spanB t.reads = L2 at hin hspn h2l
  have hchg := fun (W : World) (base p : Nat) (h1 : FW W base p L2) (h2 : RdC W base (.slice A2 t.chgs.length cc2) t.chgs) => fchgs_any t.chgs hch (by omega) _ base p L2 W h1 h2 (by omega)
  generalize L2 ++ listB chgB t.chgs = L3 at hin hchg
  have HNUM := Lib.hid hnum
  have HSP := Lib.hid hspn
  have HCH := Lib.hid hchg
  have HIN := Lib.hid hin
  clear hnum hspn hchg hin hel hl2 h1l h2l hsp hch hs s1 s2 s3 s4 s5 hr hft
  go_enter Tryz.func31, Tryz.ntmps31
  go_wp2_with fail
  refine HSND.out.mono ?_
  rintro e w0 ⟨rfl, hb2⟩
  have hV0 := HV1.out.below hb2 (by simp)
  have hbw : Below w.heap.size w w0 := HB1.out.trans (hb2.mono (by simp))
  have HV0 := Lib.hid hV0; clear hV0
  have HBW := Lib.hid hbw; clear hbw hb2
  have hlt0 : w.heap.size < w0.heap.size := HV0.out.size
  go_wp2_with fail
  obtain ⟨base, hbase⟩ : ∃ base, base = w0.heap.size := ⟨_, rfl⟩
  have hG0 : w.heap.size < base := by omega
  have HC := Lib.hid (fun W (hW : Below base w0 W) => HV0.out.below hW hG0)
  have HSPN := Lib.hid (fun (W : World) (p : Nat) (h1 : FW W base p L1) (hW : Below base w0 W) => HSP.out W base p h1 (((HVA.out.below HBW.out (Nat.le_refl _)).below hW (by omega)).mono (by omega)))
  have HCHG := Lib.hid (fun (W : World) (p : Nat) (h1 : FW W base p L2) (hW : Below base w0 W) => HCH.out W base p h1 (((HVB.out.below HBW.out (Nat.le_refl _)).below hW (by omega)).mono (by omega)))
  clear HSP HCH
  refine wp_region_planT (fun W => Below base w0 W) (.take 1 (.take 2 (.take 5 (.take 6 (.take 8 (.take 9 (.fork 0 (.step 3 (.step 4 (.step 7 (.step 10 (.take 11 (.take 12 (.step 13 (.take 14 (.take 15 .done))))))))) 3 (.step 0 (.step 4 (.step 7 (.step 10 (.take 11 (.take 12 (.step 13 (.take 14 (.take 15 .done)))))))))))))))) (by kernel_rfl) (by kernel_rfl) (fun _ _ d _ _ h => by cases d <;> exact h) ((Below.refl _ _).drew) ?_
  have hS1 : Below base w0 w0.drew := (Below.refl _ _).drew
  have hz1 : base ≤ w0.drew.heap.size := by rw [hbase]; exact Nat.le_refl _
  have HBASE := Lib.hid hbase; clear hbase
  generalize w0.drew = w1 at hS1 hz1 ⊢
  have HS1 := Lib.hid hS1; clear hS1
  refine PlanT.takeI (v := ?_) rfl rfl ?_ ?_; rotate_left; (focus (intro W hW; have hC := HC.out W hW; have k0 := hC.cell 0 _ rfl; have k1 := hC.cell 1 _ rfl; have k2 := hC.cell 2 _ rfl; go_simp; (try with_reducible rfl); done)); (try simp only [Act.put, List.setIfInBounds_toArray, List.set_cons_zero, List.set_cons_succ])
  refine PlanT.takeI (v := ?_) rfl rfl ?_ ?_; rotate_left; (focus (intro W hW; have hC := HC.out W hW; have k0 := hC.cell 0 _ rfl; have k1 := hC.cell 1 _ rfl; have k2 := hC.cell 2 _ rfl; go_simp; (try with_reducible rfl); done)); (try simp only [Act.put, List.setIfInBounds_toArray, List.set_cons_zero, List.set_cons_succ])
  refine PlanT.takeI (v := ?_) rfl rfl ?_ ?_; rotate_left; (focus (intro W hW; have hC := HC.out W hW; have k0 := hC.cell 0 _ rfl; have k1 := hC.cell 1 _ rfl; have k2 := hC.cell 2 _ rfl; go_simp; (try with_reducible rfl); done)); (try simp only [Act.put, List.setIfInBounds_toArray, List.set_cons_zero, List.set_cons_succ])
  refine PlanT.takeI (v := ?_) rfl rfl ?_ ?_; rotate_left; (focus (intro W hW; have hC := HC.out W hW; have k0 := hC.cell 0 _ rfl; have k1 := hC.cell 1 _ rfl; have k2 := hC.cell 2 _ rfl; go_simp; (try with_reducible rfl); done)); (try simp only [Act.put, List.setIfInBounds_toArray, List.set_cons_zero, List.set_cons_succ])
  refine PlanT.takeI (v := ?_) rfl rfl ?_ ?_; rotate_left; (focus (intro W hW; have hC := HC.out W hW; have k0 := hC.cell 0 _ rfl; have k1 := hC.cell 1 _ rfl; have k2 := hC.cell 2 _ rfl; go_simp; (try with_reducible rfl); done)); (try simp only [Act.put, List.setIfInBounds_toArray, List.set_cons_zero, List.set_cons_succ])
  refine PlanT.takeI (v := ?_) rfl rfl ?_ ?_; rotate_left; (focus (intro W hW; have hC := HC.out W hW; have k0 := hC.cell 0 _ rfl; have k1 := hC.cell 1 _ rfl; have k2 := hC.cell 2 _ rfl; go_simp; (try with_reducible rfl); done)); (try simp only [Act.put, List.setIfInBounds_toArray, List.set_cons_zero, List.set_cons_succ])
  refine ⟨?_, ?_⟩
  · refine wpOp_stepT rfl rfl (fun Kk hK => ?_)
    go_simp
    obtain ⟨w10, hw10⟩ : ∃ W, W = w1.alloc (.cells #[.slice none 0 0] 95) := ⟨_, rfl⟩
    have hb10 : Below w1.heap.size w1 w10 := by rw [hw10]; exact (Below.refl _ _).alloc (Nat.le_refl _) _
    have hz10 : base ≤ w10.heap.size := Nat.le_trans hz1 hb10.size
    have hS10 : Below base w0 w10 := HS1.out.trans (hb10.mono hz1)
    have hN10 : FW w10 base w1.heap.size [] := by rw [hw10]; exact FW.fresh _ _ hz1
    rw [← hw10]
    clear hw10 hb10
    obtain ⟨p10, hg10⟩ : ∃ g, g = w1.heap.size := ⟨_, rfl⟩
    rw [← hg10] at hN10 ⊢
    clear hg10
    have HS10 := Lib.hid hS10
    have HF10 := Lib.hid hN10
    refine hK.out _ _ hS10 ?_
    clear hK Kk hS10 hN10
    refine wpOp_stepT rfl rfl (fun Kk hK => ?_)
    go_simp
    obtain ⟨w11, hw11⟩ : ∃ W, W = w10.alloc (.cells #[.int .i64 t.read] 3) := ⟨_, rfl⟩
    have hb11 : Below w10.heap.size w10 w11 := by rw [hw11]; exact (Below.refl _ _).alloc (Nat.le_refl _) _
    have hz11 : base ≤ w11.heap.size := Nat.le_trans hz10 hb11.size
    have hS11 : Below base w0 w11 := HS10.out.trans (hb11.mono hz10)
    have hN11 : RdI w11 w11.heap.size (.slice (some ⟨w10.heap.size, 0, none⟩) 1 1) [t.read] := by rw [hw11, World.size_alloc]; exact RdI.lit _ [t.read]
    have HF11 := Lib.hid (HF10.out.more hb11 (Nat.le_refl _))
    rw [← hw11]
    clear hw11 hb11
    obtain ⟨g11, hg11⟩ : ∃ g, g = w10.heap.size := ⟨_, rfl⟩
    rw [← hg11] at hN11 ⊢
    clear hg11
    have HS11 := Lib.hid hS11
    have HI11_3 := Lib.hid hN11
    refine hK.out _ _ hS11 ?_
    clear hK Kk hS11 hN11
    refine wpOp_stepT rfl rfl (fun Kk hK => ?_)
    go_simp
    go_at_call 40
    refine (HNUM.out _ _ _ _ HF11.out HI11_3.out).mono ?_
    rintro e w12 ⟨rfl, hf12, hb12, hk12⟩
    have hz12 : base ≤ w12.heap.size := hf12.size
    have hS12 : Below base w0 w12 := HS11.out.trans hb12
    have HF12 := Lib.hid hf12
    have HS12 := Lib.hid hS12
    refine hK.out _ _ hS12 ?_
    clear hK Kk hS12 hf12 hb12 hk12
    refine wpOp_stepT rfl rfl (fun Kk hK => ?_)
    go_simp
    go_at_call 41
    refine (HSPN.out _ _ HF12.out HS12.out).mono ?_
    rintro e w13 ⟨rfl, hf13, hb13, hk13⟩
    have hz13 : base ≤ w13.heap.size := hf13.size
    have hS13 : Below base w0 w13 := HS12.out.trans hb13
    have HF13 := Lib.hid hf13
    have HS13 := Lib.hid hS13
    refine hK.out _ _ hS13 ?_
    clear hK Kk hS13 hf13 hb13 hk13
    refine wpOp_stepT rfl rfl (fun Kk hK => ?_)
    go_simp
    go_at_call 42
    refine (HCHG.out _ _ HF13.out HS13.out).mono ?_
    rintro e w14 ⟨rfl, hf14, hb14, hk14⟩
    have hz14 : base ≤ w14.heap.size := hf14.size
    have hS14 : Below base w0 w14 := HS13.out.trans hb14
    have HF14 := Lib.hid hf14
    have HS14 := Lib.hid hS14
    refine hK.out _ _ hS14 ?_
    clear hK Kk hS14 hf14 hb14 hk14
    refine PlanT.takeI (v := ?_) rfl rfl ?_ ?_; rotate_left; (focus (intro W hW;  go_simp; (try with_reducible rfl); done)); (try simp only [Act.put, List.setIfInBounds_toArray, List.set_cons_zero, List.set_cons_succ])
    refine PlanT.takeI (v := ?_) rfl rfl ?_ ?_; rotate_left; (focus (intro W hW;  go_simp; (try with_reducible rfl); done)); (try simp only [Act.put, List.setIfInBounds_toArray, List.set_cons_zero, List.set_cons_succ])
    obtain ⟨A14, c14, hwh14, how14, hpp14, _⟩ := HF14.out
    have q14 := hwh14.cell 0 _ rfl
    have HOW14 := Lib.hid how14
    refine wpOp_stepT rfl rfl (fun Kk hK => ?_)
    go_simp
    refine hK.out _ _ HS14.out ?_
    clear hK Kk
    refine PlanT.takeI (v := ?_) rfl rfl ?_ ?_; rotate_left; (focus (intro W hW;  go_simp; (try with_reducible rfl); done)); (try simp only [Act.put, List.setIfInBounds_toArray, List.set_cons_zero, List.set_cons_succ])
    refine PlanT.takeI (v := ?_) rfl rfl ?_ ?_; rotate_left; (focus (intro W hW;  go_simp; (try with_reducible rfl); done)); (try simp only [Act.put, List.setIfInBounds_toArray, List.set_cons_zero, List.set_cons_succ])
    simp only [PlanT]
    have HBF := Lib.hid (show Below w.heap.size w w14 from HBW.out.trans (HS14.out.mono (by omega)))
    clear how14 hwh14 hpp14
    go_wp2_with fail
    go_ret2
    exact ⟨_, rfl, by rw [HIN.out]; exact HOW14.out.rdB, HBF.out⟩
  · refine wpOp_stepT rfl rfl (fun Kk hK => ?_)
    go_simp
    obtain ⟨w15, hw15⟩ : ∃ W, W = w1.alloc (.cells #[.int .i64 t.read] 3) := ⟨_, rfl⟩
    have hb15 : Below w1.heap.size w1 w15 := by rw [hw15]; exact (Below.refl _ _).alloc (Nat.le_refl _) _
    have hz15 : base ≤ w15.heap.size := Nat.le_trans hz1 hb15.size
    have hS15 : Below base w0 w15 := HS1.out.trans (hb15.mono hz1)
    have hN15 : RdI w15 w15.heap.size (.slice (some ⟨w1.heap.size, 0, none⟩) 1 1) [t.read] := by rw [hw15, World.size_alloc]; exact RdI.lit _ [t.read]
    rw [← hw15]
    clear hw15 hb15
    obtain ⟨g15, hg15⟩ : ∃ g, g = w1.heap.size := ⟨_, rfl⟩
    rw [← hg15] at hN15 ⊢
    clear hg15
    have HS15 := Lib.hid hS15
    have HI15_3 := Lib.hid hN15
    refine hK.out _ _ hS15 ?_
    clear hK Kk hS15 hN15
    refine wpOp_stepT rfl rfl (fun Kk hK => ?_)
    go_simp
    obtain ⟨w16, hw16⟩ : ∃ W, W = w15.alloc (.cells #[.slice none 0 0] 95) := ⟨_, rfl⟩
    have hb16 : Below w15.heap.size w15 w16 := by rw [hw16]; exact (Below.refl _ _).alloc (Nat.le_refl _) _
    have hz16 : base ≤ w16.heap.size := Nat.le_trans hz15 hb16.size
    have hS16 : Below base w0 w16 := HS15.out.trans (hb16.mono hz15)
    have hN16 : FW w16 base w15.heap.size [] := by rw [hw16]; exact FW.fresh _ _ hz15
    have HI16_3 := Lib.hid (show RdI w16 w16.heap.size (.slice (some ⟨g15, 0, none⟩) 1 1) [t.read] from HI15_3.out.next hb16)
    rw [← hw16]
    clear hw16 hb16
    obtain ⟨p16, hg16⟩ : ∃ g, g = w15.heap.size := ⟨_, rfl⟩
    rw [← hg16] at hN16 ⊢
    clear hg16
    have HS16 := Lib.hid hS16
    have HF16 := Lib.hid hN16
    refine hK.out _ _ hS16 ?_
    clear hK Kk hS16 hN16
    refine wpOp_stepT rfl rfl (fun Kk hK => ?_)
    go_simp
    go_at_call 40
    refine (HNUM.out _ _ _ _ HF16.out HI16_3.out).mono ?_
    rintro e w17 ⟨rfl, hf17, hb17, hk17⟩
    have hz17 : base ≤ w17.heap.size := hf17.size
    have hS17 : Below base w0 w17 := HS16.out.trans hb17
    have HF17 := Lib.hid hf17
    have HS17 := Lib.hid hS17
    refine hK.out _ _ hS17 ?_
    clear hK Kk hS17 hf17 hb17 hk17
    refine wpOp_stepT rfl rfl (fun Kk hK => ?_)
    go_simp
    go_at_call 41
    refine (HSPN.out _ _ HF17.out HS17.out).mono ?_
    rintro e w18 ⟨rfl, hf18, hb18, hk18⟩
    have hz18 : base ≤ w18.heap.size := hf18.size
    have hS18 : Below base w0 w18 := HS17.out.trans hb18
    have HF18 := Lib.hid hf18
    have HS18 := Lib.hid hS18
    refine hK.out _ _ hS18 ?_
    clear hK Kk hS18 hf18 hb18 hk18
    refine wpOp_stepT rfl rfl (fun Kk hK => ?_)
    go_simp
    go_at_call 42
    refine (HCHG.out _ _ HF18.out HS18.out).mono ?_
    rintro e w19 ⟨rfl, hf19, hb19, hk19⟩
    have hz19 : base ≤ w19.heap.size := hf19.size
    have hS19 : Below base w0 w19 := HS18.out.trans hb19
    have HF19 := Lib.hid hf19
    have HS19 := Lib.hid hS19
    refine hK.out _ _ hS19 ?_
    clear hK Kk hS19 hf19 hb19 hk19
    refine PlanT.takeI (v := ?_) rfl rfl ?_ ?_; rotate_left; (focus (intro W hW;  go_simp; (try with_reducible rfl); done)); (try simp only [Act.put, List.setIfInBounds_toArray, List.set_cons_zero, List.set_cons_succ])
    refine PlanT.takeI (v := ?_) rfl rfl ?_ ?_; rotate_left; (focus (intro W hW;  go_simp; (try with_reducible rfl); done)); (try simp only [Act.put, List.setIfInBounds_toArray, List.set_cons_zero, List.set_cons_succ])
    obtain ⟨A19, c19, hwh19, how19, hpp19, _⟩ := HF19.out
    have q19 := hwh19.cell 0 _ rfl
    have HOW19 := Lib.hid how19
    refine wpOp_stepT rfl rfl (fun Kk hK => ?_)
    go_simp
    refine hK.out _ _ HS19.out ?_
    clear hK Kk
    refine PlanT.takeI (v := ?_) rfl rfl ?_ ?_; rotate_left; (focus (intro W hW;  go_simp; (try with_reducible rfl); done)); (try simp only [Act.put, List.setIfInBounds_toArray, List.set_cons_zero, List.set_cons_succ])
    refine PlanT.takeI (v := ?_) rfl rfl ?_ ?_; rotate_left; (focus (intro W hW;  go_simp; (try with_reducible rfl); done)); (try simp only [Act.put, List.setIfInBounds_toArray, List.set_cons_zero, List.set_cons_succ])
    simp only [PlanT]
    have HBF := Lib.hid (show Below w.heap.size w w19 from HBW.out.trans (HS19.out.mono (by omega)))
    clear how19 hwh19 hpp19
    go_wp2_with fail
    go_ret2
    exact ⟨_, rfl, by rw [HIN.out]; exact HOW19.out.rdB, HBF.out⟩
end Go.Proofs.YtgppgecglkellaaGreat
