/- The frame layer's writer: what its calls leave. The frame layer's writer: spans. The frame layer's writer: changes. The reader: what its calls leave. What Num answers. -/
import Derived.Test.YtbifnogocmgddaaGreatFam
import Derived.Test.YtbifnogocmgddaaGreatFal
import Derived.Test.YtbifnogocmgddaaGreatFak
import Derived.Test.YtbifnogocmgddaaGreatFai
import Derived.Test.YtbifnogocmgddaaGreatFaj
namespace Go.Proofs.YtbifnogocmgddaaGreat
open Go.RowKit

theorem Whole.rd {α : Type} {enc : α → List Value} {k : Nat} (hk : ∀ x, (enc x).length = k) {w : World} {g : Nat} {t : TypeId} {l : List α} (h : Whole w g t (flatG enc l)) : Rd enc k w (g + 1) (.slice (some ⟨g, 0, none⟩) l.length l.length) l := by
  refine ⟨_, l.length, rfl, Nat.le_refl _, fun i hi => ⟨g, 0, rfl, Nat.lt_succ_self _, fun j u hu => ?_⟩⟩
  have hj : j < k := by
    rcases Nat.lt_or_ge j k with h' | h'
    · exact h'
    · rw [List.getElem?_eq_none (by rw [hk]; exact h')] at hu; cases hu
  refine h.cell _ _ ?_
  rw [Nat.zero_add, flatG_get hk l i hi j hj]
  exact hu

/-- a writer of the frame layer at block p -/
def FW (w : World) (base p : Nat) (l : List UInt8) : Prop :=
  ∃ A c, Whole w p 132 [.slice A l.length c] ∧ OwnB w base (.slice A l.length c) l ∧ base ≤ p ∧ base ≤ w.heap.size
/-- blocks of other types than a writer's and its bytes' are kept -/
def Keeps (w w' : World) : Prop := w.heap.size ≤ w'.heap.size ∧ ∀ g t cs, Whole w g t cs → t ≠ 5 → t ≠ 132 → Whole w' g t cs
theorem Keeps.refl (w : World) : Keeps w w := ⟨Nat.le_refl _, fun _ _ _ h _ _ => h⟩
theorem Keeps.trans {a b c : World} (h : Keeps a b) (k : Keeps b c) : Keeps a c := ⟨Nat.le_trans h.1 k.1, fun g t cs h1 h2 h3 => k.2 g t cs (h.2 g t cs h1 h2 h3) h2 h3⟩
theorem Keeps.of {w w' : World} (h : Below w.heap.size w w') : Keeps w w' := ⟨h.size, fun _ _ _ h1 _ _ => h1.below h h1.size⟩
theorem Keeps.alloc (w : World) (o : Obj) : Keeps w (w.alloc o) := .of ((Below.refl _ w).alloc (Nat.le_refl _) o)
theorem FW.more {w w' : World} {base p B : Nat} {l : List UInt8} (h : FW w base p l) (hb : Below B w w') (hB : w.heap.size ≤ B) : FW w' base p l := by
  obtain ⟨A, c, hw, ho, hp, hs⟩ := h
  exact ⟨A, c, hw.below hb (Nat.lt_of_lt_of_le hw.size hB), ho.below hb hB, hp, Nat.le_trans hs hb.size⟩
theorem FW.size {w : World} {base p : Nat} {l : List UInt8} (h : FW w base p l) : base ≤ w.heap.size := by obtain ⟨_, _, _, _, _, h⟩ := h; exact h
/-- what an append of its bytes and a store leave -/
theorem FW.stored {w w2 : World} {base p : Nat} {l l2 : List UInt8} {A A2 : Option Addr} {c c2 : Nat} (hb : Whole w p 132 [.slice A l.length c]) (ho : OwnB w base (.slice A l.length c) l) (hp : base ≤ p) (hs : base ≤ w.heap.size)
    (ho2 : OwnB w2 base (.slice A2 l2.length c2) l2) (hg : w.grownBy w2 (Value.slice A l.length c).ownBlock) :
    FW (w2.setCell ⟨p, 0, none⟩ (.slice A2 l2.length c2)) base p l2 ∧ Below base w (w2.setCell ⟨p, 0, none⟩ (.slice A2 l2.length c2)) ∧ Keeps w (w2.setCell ⟨p, 0, none⟩ (.slice A2 l2.length c2)) := by
  have hb2 := hb.grown hg (ho.apart hb (by decide))
  refine ⟨⟨A2, c2, hb2.put 0 _, ho2.put hb2 (by decide) 0 _, hp, ?_⟩, (ho.grown (Below.refl _ _) hg (Nat.le_refl _) hs).setCell hp _, ?_, fun g t cs h1 h2 h3 => ?_⟩
  · have := hg.size; simp; omega
  · have := hg.size; simpa using this
  · have hne : some g ≠ (Value.slice A l.length c).ownBlock := ho.apart h1 (Ne.symm h2)
    exact (h1.grown hg hne).away (p := ⟨p, 0, none⟩) (h1.apart hb h3) _

set_option maxHeartbeats 1000000 in
set_option maxRecDepth 100000 in
theorem fnums_any (l : List Int) (hr : ∀ n ∈ l, 0 ≤ n ∧ n < 9223372036854775808) (hl : l.length ≤ 4096) (v : Value) (base p : Nat) (m : List UInt8) (w : World) (hw : FW w base p m) (hv : RdI w w.heap.size v l) (hm : m.length ≤ 200000000000000) :
    Calls Tryz.prog 72 #[.pointer (some ⟨p, 0, none⟩), v] w fun x w' => x = .returned (.pointer (some ⟨p, 0, none⟩)) ∧ FW w' base p (m ++ encs l) ∧ Below base w w' ∧ Keeps w w' := by
  obtain ⟨A, c, hb, ho, hp, hs⟩ := hw
  have hn := nums_any l (fun n h => (hr n h).2) v w hv (by omega)
  rw [show numsAns l = (encs l, 0) by
    rw [numsAns, if_neg (by omega), if_neg]
    simp only [List.any_eq_true, decide_eq_true_eq, not_exists, not_and]
    intro n h
    have := (hr n h).1
    omega] at hn
  have hlen := encs_len l (fun n h => (hr n h).2)
  obtain ⟨A3, c3, rfl, _, _⟩ := hv.at
  generalize encs l = R at hn hlen ⊢
  have HN := Lib.hid hn; clear hn hr hv
  have HB := Lib.hid hb; clear hb
  have HO := Lib.hid ho; clear ho
  go_enter Tryz.func72, Tryz.ntmps72
  go_wp2_with fail
  refine HN.out.mono ?_
  rintro e w1 ⟨v1, rfl, hr1, hb1⟩
  have hW1 := HB.out.below hb1 HB.out.size
  have hO1 := HO.out.below hb1 (Nat.le_refl _)
  obtain ⟨A1, c1, rfl, _, _⟩ := hr1.at
  have c0 := hW1.cell 0 _ rfl
  have hs1 : base ≤ w1.heap.size := Nat.le_trans hs hb1.size
  have HK1 := Lib.hid (Keeps.of hb1)
  have HB1 := Lib.hid (hb1.mono hs); clear hb1
  have HW1 := Lib.hid hW1; clear hW1
  have HO1 := Lib.hid hO1; clear hO1
  have HR1 := Lib.hid hr1; clear hr1
  go_wp2_with (at_builtin; go_must (refine wpList_addBG rfl _ _ rfl base (.slice A m.length c) m rfl HO1.out w1.heap.size _ R rfl HR1.out (by omega) hs1 ?_))
  intro A2 c2 w2 ho2 hg2
  have hb2 := HW1.out.grown hg2.out (HO1.out.apart HW1.out (by decide))
  have k0 := hb2.cell 0 _ rfl
  have g0 := hb2.frozen 0
  obtain ⟨h1, h2, h3⟩ := FW.stored (l2 := m ++ R) (A2 := A2) (c2 := c2) HW1.out HO1.out hp hs1 (by rw [List.length_append]; exact ho2.out) hg2.out
  have H1 := Lib.hid h1
  have H2 := Lib.hid h2
  have H3 := Lib.hid h3
  clear hb2 h1 h2 h3 ho2 hg2
  simp only [List.length_append] at H1 H2 H3
  go_wp2_with fail
  go_ret
  exact ⟨rfl, H1.out, HB1.out.trans H2.out, HK1.out.trans H3.out⟩

/-- texts as bytes -/
def txts (ks : List K) : List UInt8 := ks.flatMap fun k => encT k.data.toList
theorem txts_append (a b : List K) : txts (a ++ b) = txts a ++ txts b := by simp [txts]
theorem encT_len (k : K) (h : k.size ≤ 65536) : (encT k.data.toList).length ≤ k.size + 9 := by
  rw [encT, List.length_append, data_len]
  have := enc_len9 (n := k.size) (by omega)
  omega
theorem txts_len : ∀ (ks : List K), (∀ k ∈ ks, k.size ≤ 65536) → (txts ks).length ≤ ks.length * 65545
  | [], _ => by simp [txts]
  | k :: r, h => by
    have h1 := txts_len r fun x hx => h x (by simp [hx])
    have h2 := encT_len k (h k (by simp))
    have h3 := h k (by simp)
    rw [show txts (k :: r) = encT k.data.toList ++ txts r from rfl, List.length_append, List.length_cons]
    omega

set_option maxHeartbeats 2000000 in
set_option maxRecDepth 100000 in
theorem ftexts_any (ks : List K) (hs : ∀ k ∈ ks, k.size ≤ 65536) (n : Nat) (hn : ks.length = n) (hn2 : n ≤ 24) (g base p : Nat) (m : List UInt8) (w : World) (hw : FW w base p m) (hg : Whole w g 9 (ks.map .string)) (hm : m.length ≤ 190000000000000) :
    Calls Tryz.prog 94 #[.pointer (some ⟨p, 0, none⟩), .slice (some ⟨g, 0, none⟩) n n] w fun x w' => x = .returned (.pointer (some ⟨p, 0, none⟩)) ∧ FW w' base p (m ++ txts ks) ∧ Below base w w' ∧ Keeps w w' := by
  have HW := Lib.hid hw; clear hw
  have HG := Lib.hid hg; clear hg
  have HS := Lib.hid hs; clear hs
  go_enter Tryz.func94, Tryz.ntmps94
  go_wp2_with fail
  go_loopw [11] (fun iv wr => ∃ (i : Nat) (m' : List UInt8), i ≤ n ∧ iv = .int .i64 i ∧ FW wr base p m' ∧ m' = m ++ txts (ks.take i) ∧ m'.length ≤ m.length + i * 65545 ∧ Whole wr g 9 (ks.map .string) ∧ Below base w wr ∧ Keeps w wr) (fun iv _ => n - (intOf iv).toNat)
  case atStart => exact ⟨0, m, Nat.zero_le _, rfl, HW.out, by simp [txts], by omega, HG.out, Below.refl _ _, Keeps.refl _⟩
  case round =>
    obtain ⟨i, m', hi, rfl, ⟨A, c, hb, ho, hp, hs⟩, hme, hml, hwg, hbw, hk⟩ := hrel
    have HB := Lib.hid hb; clear hb
    have HO := Lib.hid ho; clear ho
    have HME := Lib.hid hme; clear hme
    have HWG := Lib.hid hwg; clear hwg
    have HBW := Lib.hid hbw; clear hbw
    have HK := Lib.hid hk; clear hk
    by_cases hlt : i < n
    · have hlt2 : i < ks.length := by omega
      have hks := HS.out ks[i] (List.getElem_mem hlt2)
      have hx := HWG.out.cell i (.string ks[i]) (by simp [hlt2])
      have htk : txts (ks.take (i + 1)) = txts (ks.take i) ++ encT ks[i].data.toList := by
        rw [List.take_add_one, List.getElem?_eq_getElem hlt2, txts_append]; simp [txts]
      generalize ks[i] = k at hks hx htk
      have hpt := fun W => putText_any [] (.slice none 0 0) k W (Rd.nil _ _) (by simp) (by omega)
      rw [show putTAns [] k = (encT k.data.toList, 0) by rw [putTAns, if_neg (by omega)]; rfl] at hpt
      have hel := encT_len k hks
      have hnew : m' ++ encT k.data.toList = m ++ txts (ks.take (i + 1)) := by rw [HME.out, htk, List.append_assoc]
      generalize encT k.data.toList = R at hpt hel hnew
      have HPT := Lib.hid hpt
      have HNEW := Lib.hid hnew
      clear hpt htk hnew
      go_wp2_with fail
      refine (HPT.out _).mono ?_
      rintro e w1 ⟨v1, rfl, hr1, hb1⟩
      have hW1 := HB.out.below hb1 HB.out.size
      have hO1 := HO.out.below hb1 (Nat.le_refl _)
      have hG1 := HWG.out.below hb1 HWG.out.size
      obtain ⟨A1, c1, rfl, _, _⟩ := hr1.at
      have c0 := hW1.cell 0 _ rfl
      have hs1 : base ≤ w1.heap.size := Nat.le_trans hs hb1.size
      have HK1 := Lib.hid (HK.out.trans (Keeps.of hb1))
      have HB1 := Lib.hid (HBW.out.trans (hb1.mono hs)); clear hb1
      have HW1 := Lib.hid hW1; clear hW1
      have HO1 := Lib.hid hO1; clear hO1
      have HR1 := Lib.hid hr1; clear hr1
      have HG1 := Lib.hid hG1; clear hG1 hx
      go_wp2_with (at_builtin; go_must (refine wpList_addBG rfl _ _ rfl base (.slice A m'.length c) m' rfl HO1.out w1.heap.size _ R rfl HR1.out (by omega) hs1 ?_))
      intro A2 c2 w2 ho2 hg2
      have hb2 := HW1.out.grown hg2.out (HO1.out.apart HW1.out (by decide))
      have k0 := hb2.cell 0 _ rfl
      have g0 := hb2.frozen 0
      obtain ⟨h1, h2, h3⟩ := FW.stored (l2 := m' ++ R) (A2 := A2) (c2 := c2) HW1.out HO1.out hp hs1 (by rw [List.length_append]; exact ho2.out) hg2.out
      have h4 := h3.2 _ _ _ HG1.out (by decide) (by decide)
      have H1 := Lib.hid h1
      have H2 := Lib.hid h2
      have H3 := Lib.hid h3
      have H4 := Lib.hid h4
      clear hb2 h1 h2 h3 h4 ho2 hg2
      simp only [List.length_append] at H1 H2 H3 H4
      go_wp2_with fail
      go_roundw
      case rel => exact ⟨i + 1, m' ++ R, by omega, by go_num, H1.out, HNEW.out, by rw [List.length_append]; omega, H4.out, HB1.out.trans H2.out, HK1.out.trans H3.out⟩
      case measure => simp [intOf]; omega
    · obtain rfl : i = n := by omega
      have hfw : FW wr base p m' := ⟨A, c, HB.out, HO.out, hp, hs⟩
      have hm2 := HME.out
      rw [List.take_of_length_le (by omega)] at hm2
      rw [hm2] at hfw
      have HF := Lib.hid hfw; clear hfw hm2
      go_wp2_with fail
      go_ret
      exact ⟨rfl, HF.out, HBW.out, HK.out⟩
end Go.Proofs.YtbifnogocmgddaaGreat
namespace Go.Proofs.YtbifnogocmgddaaGreat
open Go.RowKit
attribute [local go_sem] less_eq same_eq le_eq ge_eq gt_eq

theorem spanB_len (s : K × K) (h : s.1.size ≤ 65536 ∧ s.2.size ≤ 65536) : (spanB s).length ≤ 131090 := by
  have h1 := encT_len s.1 h.1
  have h2 := encT_len s.2 h.2
  rw [spanB, List.length_append]; omega
theorem txts_two (x y : K) : txts [x, y] = spanB (x, y) := by simp [txts, spanB]
theorem encs_one (n : Int) : encs [n] = enc n.toNat := by simp [encs]

end Go.Proofs.YtbifnogocmgddaaGreat
namespace Go.Proofs.YtbifnogocmgddaaGreat
open Go.RowKit
attribute [local go_sem] less_eq same_eq le_eq ge_eq gt_eq

/-- what the steps of a region of the writer's leave -/
def SW (w0 : World) (base : Nat) (W : World) : Prop := Below base w0 W ∧ Keeps w0 W
theorem SW.next {w0 W W' : World} {base : Nat} (h : SW w0 base W) (hb : Below W.heap.size W W') (hs : base ≤ W.heap.size) : SW w0 base W' := ⟨h.1.trans (hb.mono hs), h.2.trans (Keeps.of hb)⟩
theorem SW.keep {w0 W W' : World} {base : Nat} (h : SW w0 base W) (hb : Below base W W') (hk : Keeps W W') : SW w0 base W' := ⟨h.1.trans hb, h.2.trans hk⟩
theorem Below.drewW {w : World} {B : Nat} (n : Nat) : Below B w (w.drewN n) := ⟨rfl, rfl, rfl, Nat.le_refl _, fun _ _ => rfl⟩
theorem SW.drew (w : World) (base : Nat) : SW w base w.drew := ⟨(Below.refl _ _).drew, .of ((Below.refl _ _).drew)⟩
theorem FW.drew {w : World} {base p : Nat} {l : List UInt8} (h : FW w base p l) : FW w.drew base p l := h

theorem chgB_len (c : Chg) (h : 0 ≤ c.kind ∧ c.kind < 9223372036854775808 ∧ c.key.size ≤ 65536 ∧ c.val.size ≤ 65536) : (chgB c).length ≤ 131099 := by
  have h1 := encT_len c.key h.2.2.1
  have h2 := encT_len c.val h.2.2.2
  have h3 := enc_len9 (n := c.kind.toNat) (by omega)
  rw [chgB, List.length_append, List.length_append]; omega

set_option maxHeartbeats 4000000 in
set_option maxRecDepth 100000 in
theorem fchgs_any (l : List Chg) (hs : ∀ c ∈ l, 0 ≤ c.kind ∧ c.kind < 9223372036854775808 ∧ c.key.size ≤ 65536 ∧ c.val.size ≤ 65536) (hl : l.length ≤ 4096) (v : Value) (base p : Nat) (m : List UInt8) (w : World) (hw : FW w base p m) (hv : RdC w base v l) (hm : m.length ≤ 100000000000000) :
    Calls Tryz.prog 73 #[.pointer (some ⟨p, 0, none⟩), v] w fun x w' => x = .returned (.pointer (some ⟨p, 0, none⟩)) ∧ FW w' base p (m ++ listB chgB l) ∧ Below base w w' ∧ Keeps w w' := by
  obtain ⟨A, c, rfl, hc, hi⟩ := RdC.at hv
  have hn := fnums_any [(l.length : Int)] (by simp; omega) (by simp) (.slice (some ⟨w.heap.size, 0, none⟩) 1 1) base p m (w.alloc (.cells #[.int .i64 (l.length : Int)] 3)) (hw.more ((Below.refl _ _).alloc (Nat.le_refl _) _) (Nat.le_refl _)) (by rw [World.size_alloc]; exact RdI.one w _) (by omega)
  rw [encs_one, Int.toNat_natCast] at hn
  have hR : m ++ listB chgB l = (m ++ enc l.length) ++ l.flatMap chgB := by simp [listB]
  rw [hR]
  have hel := enc_len9 (n := l.length) (by omega)
  have hsz := hw.size
  have HB0 := Lib.hid (show Below base w (w.alloc (.cells #[.int .i64 (l.length : Int)] 3)) from (Below.refl _ _).alloc hsz _)
  have hml : (m ++ enc l.length).length ≤ m.length + 9 := by rw [List.length_append]; omega
  generalize m ++ enc l.length = m1 at hn hml ⊢
  have HN := Lib.hid hn; clear hn hw hR hel hv
  have HI := Lib.hid hi; clear hi
  have HS := Lib.hid hs; clear hs
  go_enter Tryz.func73, Tryz.ntmps73
  go_wp2_with fail
  refine HN.out.mono ?_
  rintro e w1 ⟨rfl, hf1, hb1, hk1⟩
  have HF1 := Lib.hid hf1; clear hf1
  have HB1 := Lib.hid (HB0.out.trans hb1); clear hb1
  have HK1 := Lib.hid ((Keeps.alloc _ _).trans hk1); clear hk1
  go_wp2_with fail
  go_loopw [14] (fun iv wr => ∃ (i : Nat) (m' : List UInt8), i ≤ l.length ∧ iv = .int .i64 i ∧ FW wr base p m' ∧ m' = m1 ++ (l.take i).flatMap chgB ∧ m'.length ≤ m1.length + i * 131099 ∧ Below base w wr ∧ Keeps w wr) (fun iv _ => l.length - (intOf iv).toNat)
  case atStart => exact ⟨0, m1, Nat.zero_le _, rfl, HF1.out, by simp, by omega, HB1.out, HK1.out⟩
  case round =>
    obtain ⟨i, m', hi, rfl, hf, hme, hmln, hbw, hk⟩ := hrel
    have hsz2 := hf.size
    have HF := Lib.hid hf; clear hf
    have HME := Lib.hid hme; clear hme
    have HBW := Lib.hid hbw; clear hbw
    have HK := Lib.hid hk; clear hk
    by_cases hlt : i < l.length
    · obtain ⟨b, o, rfl, hbB, k0, k1, k2⟩ := HI.out i hlt
      have hks := HS.out l[i] (List.getElem_mem hlt)
      rw [← HBW.out.cell (p := ⟨b, _, none⟩) hbB] at k0 k1 k2
      have hnew : m' ++ chgB l[i] = m1 ++ (l.take (i + 1)).flatMap chgB := by
        rw [HME.out, List.take_add_one, List.getElem?_eq_getElem hlt, List.flatMap_append, List.append_assoc]; simp
      have hlen := chgB_len l[i] hks
      generalize l[i] = z at k0 k1 k2 hks hnew hlen
      obtain ⟨kz, x, y⟩ := z
      simp only at k0 k1 k2 hks
      have hnum := fun (W : World) (v : Value) (h1 : FW W base p m') (h2 : RdI W W.heap.size v [kz]) => fnums_any [kz] (by simp; omega) (by simp) v base p m' W h1 h2 (by omega)
      rw [encs_one] at hnum
      have hR2 : chgB ⟨kz, x, y⟩ = enc kz.toNat ++ txts [x, y] := by simp [chgB, txts]
      rw [hR2, ← List.append_assoc] at hnew
      rw [hR2, List.length_append] at hlen
      have htxt := fun (W : World) (g : Nat) (h1 : FW W base p (m' ++ enc kz.toNat)) (h2 : Whole W g 9 [.string x, .string y]) => ftexts_any [x, y] (by simp; exact hks.2.2) 2 rfl (by omega) g base p (m' ++ enc kz.toNat) W h1 h2 (by rw [List.length_append]; omega)
      generalize txts [x, y] = R2 at hnew hlen htxt
      generalize enc kz.toNat = R1 at hnum hnew hlen htxt
      obtain ⟨w5, hw5⟩ : ∃ w5, w5 = wr.alloc (.cells #[.int .i64 kz, .string x, .string y] 67) := ⟨_, rfl⟩
      have hb5 : Below wr.heap.size wr w5 := by rw [hw5]; exact (Below.refl _ _).alloc (Nat.le_refl _) _
      have hC : ∀ W, SW w5 base W → Whole W wr.heap.size 67 [.int .i64 kz, .string x, .string y] := fun W hW => hW.2.2 _ _ _ (by rw [hw5]; exact Whole.fresh _ _ _) (by decide) (by decide)
      have HC := Lib.hid hC; clear hC
      have HF5 := Lib.hid (HF.out.more hb5 (Nat.le_refl _))
      have HB5 := Lib.hid (show Below base w w5 from HBW.out.trans (hb5.mono hsz2))
      have HK5 := Lib.hid (show Keeps w w5 from HK.out.trans (Keeps.of hb5))
      have HW5 := Lib.hid hw5
      have HNUM := Lib.hid hnum
      have HTXT := Lib.hid htxt
      have HNEW := Lib.hid hnew
      clear hnum htxt hnew hw5 hb5 hR2 hks HF HBW HK
      go_wp2_with fail
      rw [← HW5.out]
      clear k0 k1 k2
      refine wp_region_planT (SW w5 base) (.take 0 (.take 1 (.take 2 (.take 5 (.take 6 (.take 7 (.take 8 (.fork 3 (.fork 4 (.step 9 (.step 10 .done)) 9 (.step 4 (.step 10 .done))) 9 (.step 3 (.step 4 (.step 10 .done))))))))))) (by kernel_rfl) (by kernel_rfl) (fun _ _ d _ _ h => by cases d <;> exact h) (SW.drew _ _) ?_
      have hS6 : SW w5 base w5.drew := SW.drew _ _
      have hF6 := HF5.out.drew
      generalize w5.drew = w6 at hS6 hF6 ⊢
      have HS6 := Lib.hid hS6
      have HF6 := Lib.hid hF6
      clear hS6 hF6
      refine PlanT.takeI (v := ?_) rfl rfl ?_ ?_; rotate_left; (focus (intro W hW; have hC := HC.out W hW; have k0 := hC.cell 0 _ rfl; have k1 := hC.cell 1 _ rfl; have k2 := hC.cell 2 _ rfl; go_simp; (try with_reducible rfl); done)); (try simp only [Act.put, List.setIfInBounds_toArray, List.set_cons_zero, List.set_cons_succ])
      refine PlanT.takeI (v := ?_) rfl rfl ?_ ?_; rotate_left; (focus (intro W hW; have hC := HC.out W hW; have k0 := hC.cell 0 _ rfl; have k1 := hC.cell 1 _ rfl; have k2 := hC.cell 2 _ rfl; go_simp; (try with_reducible rfl); done)); (try simp only [Act.put, List.setIfInBounds_toArray, List.set_cons_zero, List.set_cons_succ])
      refine PlanT.takeI (v := ?_) rfl rfl ?_ ?_; rotate_left; (focus (intro W hW; have hC := HC.out W hW; have k0 := hC.cell 0 _ rfl; have k1 := hC.cell 1 _ rfl; have k2 := hC.cell 2 _ rfl; go_simp; (try with_reducible rfl); done)); (try simp only [Act.put, List.setIfInBounds_toArray, List.set_cons_zero, List.set_cons_succ])
      refine PlanT.takeI (v := ?_) rfl rfl ?_ ?_; rotate_left; (focus (intro W hW; have hC := HC.out W hW; have k0 := hC.cell 0 _ rfl; have k1 := hC.cell 1 _ rfl; have k2 := hC.cell 2 _ rfl; go_simp; (try with_reducible rfl); done)); (try simp only [Act.put, List.setIfInBounds_toArray, List.set_cons_zero, List.set_cons_succ])
      refine PlanT.takeI (v := ?_) rfl rfl ?_ ?_; rotate_left; (focus (intro W hW; have hC := HC.out W hW; have k0 := hC.cell 0 _ rfl; have k1 := hC.cell 1 _ rfl; have k2 := hC.cell 2 _ rfl; go_simp; (try with_reducible rfl); done)); (try simp only [Act.put, List.setIfInBounds_toArray, List.set_cons_zero, List.set_cons_succ])
      refine PlanT.takeI (v := ?_) rfl rfl ?_ ?_; rotate_left; (focus (intro W hW; have hC := HC.out W hW; have k0 := hC.cell 0 _ rfl; have k1 := hC.cell 1 _ rfl; have k2 := hC.cell 2 _ rfl; go_simp; (try with_reducible rfl); done)); (try simp only [Act.put, List.setIfInBounds_toArray, List.set_cons_zero, List.set_cons_succ])
      refine PlanT.takeI (v := ?_) rfl rfl ?_ ?_; rotate_left; (focus (intro W hW; have hC := HC.out W hW; have k0 := hC.cell 0 _ rfl; have k1 := hC.cell 1 _ rfl; have k2 := hC.cell 2 _ rfl; go_simp; (try with_reducible rfl); done)); (try simp only [Act.put, List.setIfInBounds_toArray, List.set_cons_zero, List.set_cons_succ])
      refine ⟨?_, ?_⟩
      · refine wpOp_stepT rfl rfl (fun Kk hK => ?_)
        go_simp
        obtain ⟨w10, hw10⟩ : ∃ W, W = w6.alloc (.cells #[.int .i64 kz] 3) := ⟨_, rfl⟩
        have hb10 : Below w6.heap.size w6 w10 := by rw [hw10]; exact (Below.refl _ _).alloc (Nat.le_refl _) _
        have hS10 : SW w5 base w10 := HS6.out.next hb10 HF6.out.size
        have hI10 : RdI w10 w10.heap.size (.slice (some ⟨w6.heap.size, 0, none⟩) 1 1) [kz] := by rw [hw10, World.size_alloc]; exact RdI.one _ _
        obtain ⟨g10, hg10⟩ : ∃ g10, g10 = w6.heap.size := ⟨_, rfl⟩
        rw [← hg10] at hI10 hb10 ⊢
        have HI10 := Lib.hid hI10; clear hI10
        have HF10 := Lib.hid (HF6.out.more hb10 (by rw [hg10]; exact Nat.le_refl _))
        have HS10 := Lib.hid hS10
        rw [← hw10]
        clear hb10 hw10 hg10
        refine hK.out _ _ hS10 ?_
        clear hK Kk hS10
        refine ⟨?_, ?_⟩
        · refine wpOp_stepT rfl rfl (fun Kk hK => ?_)
          go_simp
          go_at_call 72
          refine (HNUM.out _ _ HF10.out HI10.out).mono ?_
          rintro e w11 ⟨rfl, hf11, hb11, hk11⟩
          have hS11 : SW w5 base w11 := HS10.out.keep hb11 hk11
          have HF11 := Lib.hid hf11
          have HS11 := Lib.hid hS11
          refine hK.out _ _ hS11 ?_
          clear hK Kk hS11 hf11 hb11 hk11
          refine wpOp_stepT rfl rfl (fun Kk hK => ?_)
          go_simp
          obtain ⟨w12, hw12⟩ : ∃ W, W = w11.alloc (.cells #[.string x, .string y] 9) := ⟨_, rfl⟩
          have hb12 : Below w11.heap.size w11 w12 := by rw [hw12]; exact (Below.refl _ _).alloc (Nat.le_refl _) _
          have hS12 : SW w5 base w12 := HS11.out.next hb12 HF11.out.size
          have hT12 : Whole w12 w11.heap.size 9 [.string x, .string y] := by rw [hw12]; exact Whole.fresh _ _ _
          obtain ⟨g12, hg12⟩ : ∃ g12, g12 = w11.heap.size := ⟨_, rfl⟩
          rw [← hg12] at hT12 hb12 ⊢
          have HT12 := Lib.hid hT12; clear hT12
          have HF12 := Lib.hid (HF11.out.more hb12 (by rw [hg12]; exact Nat.le_refl _))
          have HS12 := Lib.hid hS12
          rw [← hw12]
          clear hb12 hw12 hg12
          refine hK.out _ _ hS12 ?_
          clear hK Kk hS12
          refine wpOp_stepT rfl rfl (fun Kk hK => ?_)
          go_simp
          go_at_call 94
          refine (HTXT.out _ _ HF12.out HT12.out).mono ?_
          rintro e w13 ⟨rfl, hf13, hb13, hk13⟩
          have hS13 : SW w5 base w13 := HS12.out.keep hb13 hk13
          have HF13 := Lib.hid hf13
          have HS13 := Lib.hid hS13
          refine hK.out _ _ hS13 ?_
          clear hK Kk hS13 hf13 hb13 hk13
          simp only [PlanT]
          go_wp2_with fail
          go_roundw
          case rel => exact ⟨i + 1, m' ++ R1 ++ R2, by omega, by go_num, HF13.out, HNEW.out, by rw [List.length_append, List.length_append]; omega, HB5.out.trans HS13.out.1, HK5.out.trans HS13.out.2⟩
          case measure => simp [intOf]; omega
        · refine wpOp_stepT rfl rfl (fun Kk hK => ?_)
          go_simp
          obtain ⟨w14, hw14⟩ : ∃ W, W = w10.alloc (.cells #[.string x, .string y] 9) := ⟨_, rfl⟩
          have hb14 : Below w10.heap.size w10 w14 := by rw [hw14]; exact (Below.refl _ _).alloc (Nat.le_refl _) _
          have hS14 : SW w5 base w14 := HS10.out.next hb14 HF10.out.size
          have hT14 : Whole w14 w10.heap.size 9 [.string x, .string y] := by rw [hw14]; exact Whole.fresh _ _ _
          obtain ⟨g14, hg14⟩ : ∃ g14, g14 = w10.heap.size := ⟨_, rfl⟩
          rw [← hg14] at hT14 hb14 ⊢
          have HT14 := Lib.hid hT14; clear hT14
          have HF14 := Lib.hid (HF10.out.more hb14 (by rw [hg14]; exact Nat.le_refl _))
          have HS14 := Lib.hid hS14
          rw [← hw14]
          have HI14 := Lib.hid (show RdI w14 w14.heap.size (.slice (some ⟨g10, 0, none⟩) 1 1) [kz] from HI10.out.next (by rw [← hg14]; exact hb14))
          clear hb14 hw14 hg14
          refine hK.out _ _ hS14 ?_
          clear hK Kk hS14
          refine wpOp_stepT rfl rfl (fun Kk hK => ?_)
          go_simp
          go_at_call 72
          refine (HNUM.out _ _ HF14.out HI14.out).mono ?_
          rintro e w15 ⟨rfl, hf15, hb15, hk15⟩
          have hS15 : SW w5 base w15 := HS14.out.keep hb15 hk15
          have HF15 := Lib.hid hf15
          have HS15 := Lib.hid hS15
          have HT15 := Lib.hid (hk15.2 _ _ _ HT14.out (by decide) (by decide))
          refine hK.out _ _ hS15 ?_
          clear hK Kk hS15 hf15 hb15 hk15
          refine wpOp_stepT rfl rfl (fun Kk hK => ?_)
          go_simp
          go_at_call 94
          refine (HTXT.out _ _ HF15.out HT15.out).mono ?_
          rintro e w16 ⟨rfl, hf16, hb16, hk16⟩
          have hS16 : SW w5 base w16 := HS15.out.keep hb16 hk16
          have HF16 := Lib.hid hf16
          have HS16 := Lib.hid hS16
          refine hK.out _ _ hS16 ?_
          clear hK Kk hS16 hf16 hb16 hk16
          simp only [PlanT]
          go_wp2_with fail
          go_roundw
          case rel => exact ⟨i + 1, m' ++ R1 ++ R2, by omega, by go_num, HF16.out, HNEW.out, by rw [List.length_append, List.length_append]; omega, HB5.out.trans HS16.out.1, HK5.out.trans HS16.out.2⟩
          case measure => simp [intOf]; omega
      · refine wpOp_stepT rfl rfl (fun Kk hK => ?_)
        go_simp
        obtain ⟨w17, hw17⟩ : ∃ W, W = w6.alloc (.cells #[.string x, .string y] 9) := ⟨_, rfl⟩
        have hb17 : Below w6.heap.size w6 w17 := by rw [hw17]; exact (Below.refl _ _).alloc (Nat.le_refl _) _
        have hS17 : SW w5 base w17 := HS6.out.next hb17 HF6.out.size
        have hT17 : Whole w17 w6.heap.size 9 [.string x, .string y] := by rw [hw17]; exact Whole.fresh _ _ _
        obtain ⟨g17, hg17⟩ : ∃ g17, g17 = w6.heap.size := ⟨_, rfl⟩
        rw [← hg17] at hT17 hb17 ⊢
        have HT17 := Lib.hid hT17; clear hT17
        have HF17 := Lib.hid (HF6.out.more hb17 (by rw [hg17]; exact Nat.le_refl _))
        have HS17 := Lib.hid hS17
        rw [← hw17]
        clear hb17 hw17 hg17
        refine hK.out _ _ hS17 ?_
        clear hK Kk hS17
        refine wpOp_stepT rfl rfl (fun Kk hK => ?_)
        go_simp
        obtain ⟨w18, hw18⟩ : ∃ W, W = w17.alloc (.cells #[.int .i64 kz] 3) := ⟨_, rfl⟩
        have hb18 : Below w17.heap.size w17 w18 := by rw [hw18]; exact (Below.refl _ _).alloc (Nat.le_refl _) _
        have hS18 : SW w5 base w18 := HS17.out.next hb18 HF17.out.size
        have hI18 : RdI w18 w18.heap.size (.slice (some ⟨w17.heap.size, 0, none⟩) 1 1) [kz] := by rw [hw18, World.size_alloc]; exact RdI.one _ _
        obtain ⟨g18, hg18⟩ : ∃ g18, g18 = w17.heap.size := ⟨_, rfl⟩
        rw [← hg18] at hI18 hb18 ⊢
        have HI18 := Lib.hid hI18; clear hI18
        have HF18 := Lib.hid (HF17.out.more hb18 (by rw [hg18]; exact Nat.le_refl _))
        have HS18 := Lib.hid hS18
        rw [← hw18]
        have HT18 := Lib.hid (HT17.out.below hb18 (by rw [hg18]; exact HT17.out.size))
        clear hb18 hw18 hg18
        refine hK.out _ _ hS18 ?_
        clear hK Kk hS18
        refine wpOp_stepT rfl rfl (fun Kk hK => ?_)
        go_simp
        go_at_call 72
        refine (HNUM.out _ _ HF18.out HI18.out).mono ?_
        rintro e w19 ⟨rfl, hf19, hb19, hk19⟩
        have hS19 : SW w5 base w19 := HS18.out.keep hb19 hk19
        have HF19 := Lib.hid hf19
        have HS19 := Lib.hid hS19
        have HT19 := Lib.hid (hk19.2 _ _ _ HT18.out (by decide) (by decide))
        refine hK.out _ _ hS19 ?_
        clear hK Kk hS19 hf19 hb19 hk19
        refine wpOp_stepT rfl rfl (fun Kk hK => ?_)
        go_simp
        go_at_call 94
        refine (HTXT.out _ _ HF19.out HT19.out).mono ?_
        rintro e w20 ⟨rfl, hf20, hb20, hk20⟩
        have hS20 : SW w5 base w20 := HS19.out.keep hb20 hk20
        have HF20 := Lib.hid hf20
        have HS20 := Lib.hid hS20
        refine hK.out _ _ hS20 ?_
        clear hK Kk hS20 hf20 hb20 hk20
        simp only [PlanT]
        go_wp2_with fail
        go_roundw
        case rel => exact ⟨i + 1, m' ++ R1 ++ R2, by omega, by go_num, HF20.out, HNEW.out, by rw [List.length_append, List.length_append]; omega, HB5.out.trans HS20.out.1, HK5.out.trans HS20.out.2⟩
        case measure => simp [intOf]; omega
    · obtain rfl : i = l.length := by omega
      have hf := HF.out
      rw [HME.out, List.take_length] at hf
      have HF3 := Lib.hid hf; clear hf
      go_wp2_with fail
      go_ret
      exact ⟨rfl, HF3.out, HBW.out, HK.out⟩
end Go.Proofs.YtbifnogocmgddaaGreat
namespace Go.Proofs.YtbifnogocmgddaaGreat
open Go.RowKit

/-- a reader at block p: the bytes, how many were read, the error -/
def Rdr (w : World) (base p : Nat) (v : Value) (used e : Int) : Prop := Whole w p 127 [v, .int .i64 used, .int .i64 e] ∧ base ≤ p

set_option maxHeartbeats 1000000 in
set_option maxRecDepth 100000 in
theorem from_any (v : Value) (w : World) (A : Option Addr) (n c : Nat) (hv : v = .slice A n c) :
    Calls Tryz.prog 67 #[v] w fun e w' => ∃ p, e = .returned (.pointer (some ⟨p, 0, none⟩)) ∧ Rdr w' w.heap.size p v 0 0 ∧ Below w.heap.size w w' ∧ p = w.heap.size := by
  subst hv
  go_enter Tryz.func67, Tryz.ntmps67
  go_wp2_with fail
  go_ret
  exact ⟨_, rfl, ⟨Whole.fresh _ _ [_, _, _], Nat.le_refl _⟩, (Below.refl _ _).alloc (Nat.le_refl _) _, rfl⟩

set_option maxHeartbeats 1000000 in
set_option maxRecDepth 100000 in
theorem rfail_any (base p : Nat) (v : Value) (used e f : Int) (w : World) (hw : Rdr w base p v used e) :
    Calls Tryz.prog 89 #[.pointer (some ⟨p, 0, none⟩), .int .i64 f] w fun x w' => x = .returned (.pointer (some ⟨p, 0, none⟩)) ∧ w' = (w.setCell ⟨p, 1, none⟩ (.int .i64 0)).setCell ⟨p, 2, none⟩ (.int .i64 f) := by
  obtain ⟨hb, hp⟩ := hw
  have c1 := hb.cell 1 _ rfl
  have c2 := hb.cell 2 _ rfl
  have f1 := hb.frozen 1
  have f2 := hb.frozen 2
  clear hb
  go_enter Tryz.func89, Tryz.ntmps89
  go_wp2_with fail
  go_ret
  exact ⟨rfl, rfl⟩
set_option maxRecDepth 100000 in
theorem Rdr.failed {w : World} {base p : Nat} {v : Value} {used e : Int} (f : Int) (h : Rdr w base p v used e) : Rdr ((w.setCell ⟨p, 1, none⟩ (.int .i64 0)).setCell ⟨p, 2, none⟩ (.int .i64 f)) base p v 0 f :=
  ⟨(h.1.put 1 _).put 2 _, h.2⟩

set_option maxHeartbeats 1000000 in
set_option maxRecDepth 100000 in
/-- behind an error nothing is read -/
theorem rdnum_err (base p : Nat) (v pn : Value) (used e : Int) (he : e ≠ 0) (w : World) (hw : Rdr w base p v used e) :
    Calls Tryz.prog 68 #[.pointer (some ⟨p, 0, none⟩), pn] w fun x w' => x = .returned (.pointer (some ⟨p, 0, none⟩)) ∧ w = w' := by
  obtain ⟨hb, hp⟩ := hw
  have c2 := hb.cell 2 _ rfl
  clear hb
  go_enter Tryz.func68, Tryz.ntmps68
  go_wp2_with fail
  go_ret
  exact ⟨rfl, rfl⟩

/-- the world behind the reading of a number into a cell -/
def NumW (p q o used : Nat) (r : Nat × Nat × Nat) (w w' : World) : Prop :=
  (r.2.2 = 0 ∧ ∃ k, w' = ((w.setCell ⟨q, o, none⟩ (.int .i64 (r.1 : Int))).setCell ⟨p, 1, none⟩ (.int .i64 ((used : Int) + (r.2.1 : Int)))).drewN k) ∨
  (r.2.2 ≠ 0 ∧ ∃ k, w' = ((w.setCell ⟨p, 1, none⟩ (.int .i64 0)).setCell ⟨p, 2, none⟩ (.int .i64 (r.2.2 : Int))).drewN k)
set_option maxRecDepth 100000 in
theorem or_nat64 {a b i : Nat} (ha : a < 2 ^ i) (h : a + 2 ^ i * b < 9223372036854775808) : bits .or .i64 (a : Int) ((2 ^ i * b : Nat) : Int) = ((a + 2 ^ i * b : Nat) : Int) := by
  have e : a ||| 2 ^ i * b = a + 2 ^ i * b := by
    rw [Nat.or_comm, ← Nat.two_pow_add_eq_or_of_lt ha, Nat.add_comm]
  have ha' : a % 2 ^ IntKind.i64.bits = a := Nat.mod_eq_of_lt (by show a < 2 ^ 64; omega)
  have hb' : 2 ^ i * b % 2 ^ IntKind.i64.bits = 2 ^ i * b := Nat.mod_eq_of_lt (by show _ < 2 ^ 64; omega)
  simp only [bits, BitVec.ofInt_natCast, BitVec.toNat_or, BitVec.toNat_ofNat, ha', hb', e]
  rw [IntKind.wrap_i64]
  omega
set_option maxRecDepth 100000 in
theorem andNot128 : ∀ a : Fin 256, bits .andNot .u8 (a.val : Int) 128 = ((a.val % 128 : Nat) : Int) := by decide +kernel

set_option maxHeartbeats 4000000 in
set_option maxRecDepth 100000 in
theorem rdnum_any (base p : Nat) (l : List UInt8) (A : Option Addr) (c used q o : Nat) (z : Value) (w : World) (hw : Rdr w base p (.slice A l.length c) (used : Int) 0) (hv : RdB w base (.slice A l.length c) l) (hu : used ≤ l.length) (hl : l.length < 4611686018427387904)
    (hq : w.cell? ⟨q, o, none⟩ = some z) (hf : w.frozen? ⟨q, o, none⟩ = false) (hpq : q ≠ p) (_hbq : base ≤ q) :
    Calls Tryz.prog 68 #[.pointer (some ⟨p, 0, none⟩), .pointer (some ⟨q, o, none⟩)] w fun x w' => x = .returned (.pointer (some ⟨p, 0, none⟩)) ∧
      NumW p q o used (numAns (l.drop used)) w w' := by
  obtain ⟨hb, hp⟩ := hw
  have c0 := hb.cell 0 _ rfl
  have c1 := hb.cell 1 _ rfl
  have c2 := hb.cell 2 _ rfl
  have f1 := hb.frozen 1
  have f2 := hb.frozen 2
  have hlt := hb.size
  have HB := Lib.hid hb; clear hb
  obtain ⟨R, hR⟩ : ∃ R, R = numAns (l.drop used) := ⟨_, rfl⟩
  rw [← hR]
  have hc : l.length ≤ c := by
    obtain ⟨A0, c0, e, h, _⟩ := hv
    injection e with _ _ e
    rw [e]; exact h
  by_cases hml : l.length = used
  · have hr : R = (0, 0, 3) := by rw [hR, List.drop_eq_nil_of_le (by omega)]; rfl
    subst hr
    clear hR hv
    subst hml
    have hF := fun (W : World) (h : Rdr W base p (.slice A l.length c) (l.length : Int) 0) => rfail_any base p _ _ 0 3 W h
    have HF := Lib.hid hF; clear hF
    by_cases hcu : c = l.length
    all_goals
      go_enter Tryz.func68, Tryz.ntmps68
      go_wp2_with fail
      go_quiet (fail)
      go_wp2_with fail
      go_loop [30] (fun iv => iv = .int .i64 0) (fun _ => 0)
      case atStart => rfl
      case round =>
        subst hrel
        go_wp2_with fail
        refine (HF.out (w.drewN nq) ⟨HB.out, hp⟩).mono ?_
        rintro x w2 ⟨rfl, rfl⟩
        go_wp2_with fail
        go_ret
        exact ⟨rfl, .inr ⟨by simp, nq, rfl⟩⟩
  · obtain ⟨A0, c0', e, hc', hi⟩ := hv.at
    injection e with e1 _ e2
    subst e1 e2
    obtain ⟨b, o2, hA, hbB⟩ : ∃ b o2, A = some ⟨b, o2, none⟩ ∧ b < base := by obtain ⟨b, o2, h1, h2, _⟩ := hi 0 (by omega); exact ⟨b, o2, h1, h2⟩
    subst hA
    have hcell : ∀ i, (h : i < (l.drop used).length) → w.cell? ⟨b, o2 + used + i, none⟩ = some (.int .u8 ((l.drop used)[i].toNat : Int)) := fun i h => by
      obtain ⟨b', o', hA', _, h1⟩ := hi (used + i) (by simp at h; omega)
      simp only [Option.some.injEq, Addr.mk.injEq, and_true] at hA'
      obtain ⟨rfl, rfl⟩ := hA'
      rw [Nat.add_assoc, h1]
      simp
    have hdl : (l.drop used).length = l.length - used := by simp
    generalize l.drop used = m at hR hcell hdl
    obtain ⟨k, hk⟩ : ∃ k : Nat, k = min (l.length - used) 9 := ⟨_, rfl⟩
    have hk1 : (min (↑(l.length - used)) 9 : Int) = (k : Int) := by omega
    have hk9 : k ≤ 9 := by omega
    have hkm : k ≤ m.length := by omega
    have hkk : k = 9 ∨ k = m.length := by omega
    have HK := Lib.hid hkk
    have HC := Lib.hid hcell
    have HDL := Lib.hid hdl
    have HR := Lib.hid hR
    have hcu : ¬ c = used := by omega
    have hcu2 : used < c := by omega
    clear hkk hcell hdl hR hi hv hk
    go_enter Tryz.func68, Tryz.ntmps68
    go_wp2_with fail
    go_quiet (fail)
    go_wp2_with fail
    go_loop [5, 7, 8, 30] (fun nv i7 c8 iv => ∃ (i n : Nat), i ≤ k ∧ iv = .int .i64 i ∧ nv = .int .i64 n ∧ n < 128 ^ i ∧ R = numGo i n (128 ^ i) (m.drop i)) (fun _ _ _ iv => 9 - (intOf iv).toNat)
    case atStart => exact ⟨0, 0, by omega, rfl, rfl, by simp, by rw [HR.out]; rfl⟩
    case round =>
      obtain ⟨i, n, hik, rfl, rfl, hn, he⟩ := hrel
      have HN := Lib.hid hn; clear hn
      have HE := Lib.hid he; clear he
      by_cases hlt : i < k
      · have hlm : i < m.length := by omega
        have h1 := HC.out i hlm
        have hd : m.drop i = m[i] :: m.drop (i + 1) := List.drop_eq_getElem_cons hlm
        have hgo := HE.out
        rw [hd, numGo, if_neg (by omega)] at hgo
        have hcc := m[i].toNat_lt
        generalize m[i].toNat = cn at h1 hgo hcc
        obtain ⟨x, hx⟩ : ∃ x, x = cn % 128 := ⟨_, rfl⟩
        have ha : bits .andNot .u8 (cn : Int) 128 = (x : Int) := by rw [hx]; exact andNot128 ⟨cn, hcc⟩
        have hx7 : x < 128 := by omega
        obtain ⟨y, hy⟩ : ∃ y, y = x * 128 ^ i := ⟨_, rfl⟩
        have hpow : (2 : Nat) ^ (7 * i) = 128 ^ i := by rw [Nat.pow_mul]
        have hnp1 : n + y < 128 ^ (i + 1) := by
          have hn' := HN.out
          have hle : x * 128 ^ i ≤ 127 * 128 ^ i := Nat.mul_le_mul_right _ (by omega)
          rw [Nat.pow_succ, hy]
          omega
        have hnp : n + y < 9223372036854775808 := Nat.lt_of_lt_of_le hnp1 (Nat.pow_le_pow_right (by decide) (show i + 1 ≤ 9 by omega))
        have hy2 : (x : Int) * 2 ^ (7 * i) = (y : Int) := by rw [hy, ← hpow]; simp
        have hor : bits .or .i64 (n : Int) (y : Int) = ((n + y : Nat) : Int) := by
          have h := or_nat64 (a := n) (b := x) (i := 7 * i) (by rw [hpow]; exact HN.out) (by rw [hpow, Nat.mul_comm, ← hy]; exact hnp)
          rw [hpow, Nat.mul_comm, ← hy] at h
          exact h
        rw [← hx, ← hy] at hgo
        have HG := Lib.hid hgo
        have H1 := Lib.hid hnp1
        have HX := Lib.hid hx
        have HY := Lib.hid hy
        clear hgo hd hnp1 hx hy
        by_cases hs : cn < 128
        · have hg2 := HG.out
          rw [if_pos hs] at hg2
          by_cases hz : cn = 0
          · subst hz
            obtain rfl : x = 0 := HX.out
            obtain rfl : y = 0 := by have := HY.out; omega
            by_cases hi0 : i > 0
            · rw [if_pos ⟨rfl, hi0⟩] at hg2
              have HG2 := Lib.hid hg2
              clear hg2 HX HY
              go_wp2_with fail
              refine (rfail_any base p _ _ 0 2 (w.drewN nq) ⟨HB.out, hp⟩).mono ?_
              rintro x w2 ⟨rfl, rfl⟩
              go_wp2_with fail
              go_ret
              exact ⟨rfl, by rw [HG2.out]; exact .inr ⟨by simp, nq, rfl⟩⟩
            · rw [if_neg (by omega)] at hg2
              have hi00 : ¬ ((0 : Int) < (i : Int)) := by omega
              have ha0 : bits .andNot .u8 0 128 = 0 := ha
              have hor0 : bits .or .i64 (n : Int) 0 = (n : Int) := hor
              clear ha hor hy2
              have HG2 := Lib.hid hg2
              clear hg2 HX HY
              go_wp2_with fail
              go_ret
              exact ⟨rfl, by rw [HG2.out]; exact .inl ⟨rfl, nq, by simp; rfl⟩⟩
          · rw [if_neg (by omega)] at hg2
            have HG2 := Lib.hid hg2
            clear hg2
            go_wp2_with fail
            go_ret
            exact ⟨rfl, by rw [HG2.out]; exact .inl ⟨rfl, nq, by simp; rfl⟩⟩
        · have hg2 := HG.out
          rw [if_neg hs, ← Nat.pow_succ] at hg2
          have HG2 := Lib.hid hg2
          clear hg2
          go_wp2_with fail
          go_round
          case rel => exact ⟨i + 1, n + y, by omega, by go_num, by go_num, H1.out, HG2.out⟩
          case measure => simp [intOf]; omega
      · obtain rfl : i = k := by omega
        have hg2 := HE.out
        rcases HK.out with h9 | hm
        · have h9m : 9 ≤ m.length := by omega
          have hr : R = (0, 0, 2) := by
            rw [hg2]
            cases hd : m.drop i with
            | nil => rw [numGo, if_pos (by omega)]
            | cons y ys => rw [numGo, if_pos (by omega)]
          have HR2 := Lib.hid hr
          have hl9 : ¬ ((l.length : Int) - (used : Int) < 9) := by have := HDL.out; omega
          have hl92 : ¬ (l.length - used < 9) := by have := HDL.out; omega
          clear hr hg2 h9
          go_wp2_with fail
          refine (rfail_any base p _ _ 0 2 (w.drewN nq) ⟨HB.out, hp⟩).mono ?_
          rintro x w2 ⟨rfl, rfl⟩
          go_wp2_with fail
          go_ret
          exact ⟨rfl, by rw [HR2.out]; exact .inr ⟨by simp, nq, rfl⟩⟩
        · by_cases h9m : 9 ≤ m.length
          · have hr : R = (0, 0, 2) := by
              rw [hg2, hm, List.drop_length, numGo, if_pos (by omega)]
            have HR2 := Lib.hid hr
            have hl92 : ¬ (l.length - used < 9) := by have := HDL.out; omega
            clear hr hg2 hm
            go_wp2_with fail
            refine (rfail_any base p _ _ 0 2 (w.drewN nq) ⟨HB.out, hp⟩).mono ?_
            rintro x w2 ⟨rfl, rfl⟩
            go_wp2_with fail
            go_ret
            exact ⟨rfl, by rw [HR2.out]; exact .inr ⟨by simp, nq, rfl⟩⟩
          · have hr : R = (0, 0, 3) := by
              rw [hg2, hm, List.drop_length, numGo, if_neg (by omega)]
            have HR2 := Lib.hid hr
            have hl92 : l.length - used < 9 := by have := HDL.out; omega
            clear hr hg2 hm
            go_wp2_with fail
            refine (rfail_any base p _ _ 0 3 (w.drewN nq) ⟨HB.out, hp⟩).mono ?_
            rintro x w2 ⟨rfl, rfl⟩
            go_wp2_with fail
            go_ret
            exact ⟨rfl, by rw [HR2.out]; exact .inr ⟨by simp, nq, rfl⟩⟩
end Go.Proofs.YtbifnogocmgddaaGreat
namespace Go.Proofs.YtbifnogocmgddaaGreat
open Go.RowKit

set_option maxRecDepth 100000 in
theorem Below.drewN' {B : Nat} {w w' : World} (h : Below B w w') (n : Nat) : Below B w (w'.drewN n) := ⟨h.os, h.tape, h.output, h.size, h.block⟩
set_option maxRecDepth 100000 in
/-- what is kept behind the reading of a number into a block of one cell -/
theorem NumW.kept {w w' : World} {base p q used : Nat} {v : Value} {t : TypeId} {cs : List Value} {r : Nat × Nat × Nat} {o : Nat} (hw : Rdr w base p v (used : Int) 0) (hq : Whole w q t cs) (hne : q ≠ p) (hbq : base ≤ q) (h : NumW p q o used r w w') :
    Below base w w' ∧ ((r.2.2 = 0 ∧ Rdr w' base p v ((used + r.2.1 : Nat) : Int) 0 ∧ Whole w' q t (cs.set o (.int .i64 (r.1 : Int)))) ∨ (r.2.2 ≠ 0 ∧ Rdr w' base p v 0 (r.2.2 : Int) ∧ Whole w' q t cs)) := by
  rcases h with ⟨h0, k, rfl⟩ | ⟨h0, k, rfl⟩
  · refine ⟨Below.drewN' (((Below.refl _ _).setCell (p := ⟨q, o, none⟩) hbq _).setCell (p := ⟨p, 1, none⟩) hw.2 _) k, .inl ⟨h0, ⟨?_, hw.2⟩, ?_⟩⟩
    · exact ((hw.1.away (p := ⟨q, o, none⟩) (Ne.symm hne) _).put 1 _)
    · exact (hq.put o _).away (p := ⟨p, 1, none⟩) hne _
  · refine ⟨Below.drewN' (((Below.refl _ _).setCell (p := ⟨p, 1, none⟩) hw.2 _).setCell (p := ⟨p, 2, none⟩) hw.2 _) k, .inr ⟨h0, ⟨(hw.1.put 1 _).put 2 _, hw.2⟩, ?_⟩⟩
    exact (hq.away (p := ⟨p, 1, none⟩) hne _).away (p := ⟨p, 2, none⟩) hne _
set_option maxRecDepth 100000 in
theorem NumW.first {w w' : World} {base p q : Nat} {v : Value} {t : TypeId} {l : List UInt8} (hw : Rdr w base p v 0 0) (hq : Whole w q t [.int .i64 0]) (hne : q ≠ p) (hbq : base ≤ q) (h : NumW p q 0 0 (numAns l) w w') :
    Below base w w' ∧ Rdr w' base p v ((numAns l).2.1 : Int) ((numAns l).2.2 : Int) ∧ Whole w' q t [.int .i64 ((numAns l).1 : Int)] := by
  obtain ⟨hb, h⟩ := NumW.kept (used := 0) hw hq hne hbq h
  refine ⟨hb, ?_⟩
  rcases h with ⟨h0, h1, h2⟩ | ⟨h0, h1, h2⟩
  · rw [h0]; rw [Nat.zero_add] at h1; exact ⟨h1, h2⟩
  · rcases numAns_err l with h | h | h
    · exact absurd h h0
    · rw [h] at h1 ⊢; exact ⟨h1, h2⟩
    · rw [h] at h1 ⊢; exact ⟨h1, h2⟩

/-- two blocks stand as they are -/
def Both (q : Nat) (t : TypeId) (cq : List Value) (p : Nat) (tp : TypeId) (cp : List Value) (w0 : World) (B : Nat) (W : World) : Prop := Whole W q t cq ∧ Whole W p tp cp ∧ Below B w0 W

set_option maxHeartbeats 4000000 in
set_option maxRecDepth 100000 in
theorem num_any (l : List UInt8) (v : Value) (w : World) (hv : RdB w w.heap.size v l) (hl : l.length < 4611686018427387904) :
    Calls Tryz.prog 40 #[v] w fun e w' => e = .returned (numVal (numAns l)) ∧ Below w.heap.size w w' := by
  obtain ⟨A, c, rfl, hc, _⟩ := hv.at
  have hrd := fun (w1 : World) (p : Nat) (h1 : Rdr w1 w.heap.size p (.slice A l.length c) 0 0) (h2 : Whole w1 w.heap.size 3 [.int .i64 0]) (h3 : w.heap.size ≠ p) (h4 : Below w.heap.size w w1) =>
    rdnum_any w.heap.size p l A c 0 w.heap.size 0 (.int .i64 0) w1 h1 (hv.below h4 (Nat.le_refl _)) (Nat.zero_le _) hl (h2.cell 0 _ rfl) (h2.frozen 0) h3 (Nat.le_refl _)
  obtain ⟨R, hR⟩ : ∃ R, R = numAns l := ⟨_, rfl⟩
  have hk := fun (w1 w2 : World) (p : Nat) (h1 : Rdr w1 w.heap.size p (.slice A l.length c) 0 0) (h2 : Whole w1 w.heap.size 3 [.int .i64 0]) (h3 : w.heap.size ≠ p) (h : NumW p w.heap.size 0 0 (numAns l) w1 w2) => NumW.first h1 h2 h3 (Nat.le_refl _) h
  simp only [List.drop_zero] at hrd
  rw [← hR] at hrd hk ⊢
  have HRD := Lib.hid hrd
  have HK := Lib.hid hk
  clear hrd hk hR hv
  go_enter Tryz.func40, Tryz.ntmps40
  go_wp2_with fail
  refine (from_any _ _ A l.length c rfl).mono ?_
  rintro e w1 ⟨p, rfl, hr1, hb1, hp⟩
  have hw1 : Whole w1 w.heap.size 3 [.int .i64 0] := (Whole.fresh w 3 [.int .i64 0]).below hb1 (by simp)
  have hne : w.heap.size ≠ p := by rw [hp]; simp
  have hr2 : Rdr w1 w.heap.size p (.slice A l.length c) 0 0 := ⟨hr1.1, by rw [hp]; simp⟩
  have hb2 : Below w.heap.size w w1 := ((Below.refl _ _).alloc (Nat.le_refl _) _).trans (hb1.mono (by simp))
  have HC := Lib.hid (HRD.out w1 p hr2 hw1 hne hb2)
  have HK2 := Lib.hid (fun w2 => HK.out w1 w2 p hr2 hw1 hne)
  have HB2 := Lib.hid hb2
  have HP := Lib.hid hp
  have HNE := Lib.hid hne
  clear hw1 hr1 hr2 hb1 hb2 hp hne
  go_wp2_with fail
  refine HC.out.mono ?_
  rintro e w2 ⟨rfl, hn⟩
  obtain ⟨hb3, hr3, hq3⟩ := HK2.out w2 hn
  have hB3 := HB2.out.trans hb3
  clear hn hb3
  go_wp2_with fail
  have hS : Both w.heap.size 3 [.int .i64 (R.1 : Int)] p 127 [.slice A l.length c, .int .i64 (R.2.1 : Int), .int .i64 (R.2.2 : Int)] w w.heap.size w2.drew := ⟨hq3, hr3.1, hB3.drew⟩
  refine wp_region_plan (S := Both w.heap.size 3 [.int .i64 (R.1 : Int)] p 127 [.slice A l.length c, .int .i64 (R.2.1 : Int), .int .i64 (R.2.2 : Int)] w w.heap.size) [(true, 0), (true, 1), (true, 2), (true, 3), (true, 4), (true, 5), (true, 6), (true, 7), (true, 8), (false, 9), (true, 10), (true, 11)] (by kernel_rfl) (by kernel_rfl) (fun _ _ d _ _ h => by cases d <;> exact h) hS ?_
  clear hq3 hr3 hB3
  generalize w2.drew = w3 at hS ⊢
  have HS := Lib.hid hS; clear hS
  repeat (refine Plan.take (v := ?_) rfl rfl ?_ ?_; rotate_left; (focus (intro W hW; have k0 := hW.1.cell 0 _ rfl; have k1 := hW.2.1.cell 1 _ rfl; have k2 := hW.2.1.cell 2 _ rfl; go_simp; (try with_reducible rfl); done)); (try simp only [Act.put, List.setIfInBounds_toArray, List.set_cons_zero, List.set_cons_succ]))
  have k0 := HS.out.1.cell 0 _ rfl
  have f0 := HS.out.1.frozen 0
  refine Plan.step rfl rfl (fun Kk hK => ?_)
  go_simp
  have hS2 : Both w.heap.size 3 [.int .i64 (R.1 : Int)] p 127 [.slice A l.length c, .int .i64 (R.2.1 : Int), .int .i64 (R.2.2 : Int)] w w.heap.size (w3.setCell ⟨w.heap.size, 0, none⟩ (.int .i64 (R.1 : Int))) := ⟨HS.out.1.put 0 _, HS.out.2.1.away (p := ⟨w.heap.size, 0, none⟩) (Ne.symm HNE.out) _, HS.out.2.2.setCell (Nat.le_refl _) _⟩
  refine hK.out _ _ hS2 ?_
  clear hK Kk k0 f0 HS
  generalize w3.setCell ⟨w.heap.size, 0, none⟩ (.int .i64 (R.1 : Int)) = w4 at hS2 ⊢
  have HS := Lib.hid hS2; clear hS2
  (try simp only [Act.put, List.setIfInBounds_toArray, List.set_cons_zero, List.set_cons_succ])
  repeat (refine Plan.take (v := ?_) rfl rfl ?_ ?_; rotate_left; (focus (intro W hW; go_simp; (try with_reducible rfl); done)); (try simp only [Act.put, List.setIfInBounds_toArray, List.set_cons_zero, List.set_cons_succ]))
  simp only [Plan]
  have k0 := HS.out.1.cell 0 _ rfl
  go_wp2_with fail
  exact bodyPost_ret (v := numVal R) (by simp [results, Tryz.results40, go_sem, k0, numVal]) rfl ⟨rfl, HS.out.2.2⟩
end Go.Proofs.YtbifnogocmgddaaGreat
