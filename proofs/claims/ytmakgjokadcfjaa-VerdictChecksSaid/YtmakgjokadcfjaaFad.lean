/- The program's verdicts: Both. Changes: their cells, slices of them; what Check, All and Same answer. The program's Check: add, Weight (no more than the greatest int), large, Check. The program's Check of a transaction: large, then spans that are inverted, then changes. Bytes: their cells, rows of them made, stored into, copied, appended to; as texts. -/
import Derived.Test.YtmakgjokadcfjaaFac
import Derived.Test.YtmakgjokadcfjaaFab
import Derived.Test.YtmakgjokadcfjaaFaa
import Derived.WalkKit
import Derived.WalkSpells
import Derived.WalkLawsBesides
import Derived.Lib.Hide
import Derived.Lib.EndianBits
import Derived.Sort.Walk0
import Derived.Laws.CopyOwn
import Derived.Laws.BytesArg
import Derived.Deep.OwnRows
import Derived.Lib.SlBytesConst
import Derived.Lib.SmallJoins
import Derived.BigQuiet
import Derived.Deep.QuietTactic
namespace Go.Proofs.Ytmakgjokadcfjaa
open Go.RowKit
attribute [local go_sem] less_eq same_eq le_eq ge_eq gt_eq

theorem evenV_iff {ls : List LI} (h : 0 < ls.length) : (∃ j, ∃ h : j < ls.length, ls[j].l.length ≠ lenV (lls ls)) ↔ ¬ evenV (lls ls) := by
  constructor
  · rintro ⟨j, hj, e⟩
    exact evenTo_bad hj e
  · intro g
    apply Classical.byContradiction
    intro f
    exact g (evenTo_all h fun j hj _ => Classical.byContradiction fun e => f ⟨j, hj, e⟩)
theorem map_setI (l : List Int) (j : Nat) (x : Int) : (l.map (Value.int .i64)).set j (.int .i64 x) = (l.set j x).map (Value.int .i64) := by rw [List.map_set]
theorem RdI.ofWhole {w : World} {g : Nat} {l : List Int} {n : Nat} (h : Whole w g 3 (l.map (Value.int .i64))) (hn : l.length = n) : RdI w w.heap.size (.slice (some ⟨g, 0, none⟩) n n) l := by
  subst hn
  refine ⟨some ⟨g, 0, none⟩, l.length, rfl, Nat.le_refl _, fun i hi => ⟨g, 0, rfl, h.size, fun j u hu => ?_⟩⟩
  match j, hu with
  | 0, hu =>
    simp only [encI, List.getElem?_cons_zero, Option.some.injEq] at hu
    have := h.cell i u (by simp [hi, hu])
    simpa using this
  | j + 1, hu => simp [encI] at hu

set_option maxHeartbeats 4000000 in
set_option maxRecDepth 100000 in
theorem pboth_any (ls : List LI) (v : Value) (w : World) (hv : RdLL w w.heap.size v ls) (hl : ls.length < 4611686018427387904) (hs : ∀ e ∈ ls, e.l.length ≤ 17592186043904) :
    Calls Try.prog 9 #[v] w fun e w' => ∃ v', e = .returned (.tuple #[v', .int .i64 (bothAns (lls ls)).2]) ∧ RdI w' w'.heap.size v' (bothAns (lls ls)).1 ∧ Below w.heap.size w w' := by
  obtain ⟨A, c, rfl, hc, hk⟩ := hv.keep
  have hvv := hv
  have HPT := Lib.hid (fun i (h : i < ls.length) => hv.parts ls[i] (List.getElem_mem h))
  have HSM := Lib.hid (fun i (h : i < ls.length) => hs ls[i] (List.getElem_mem h))
  have hs2 : ∀ e ∈ ls, e.l.length < 4611686018427387904 := fun e he => by have := hs e he; omega
  have HKN := Lib.hid (fun W (h : Below w.heap.size w W) => pknown_any ls _ W (hvv.next h) hl hs2)
  clear hv hs hs2
  have HK := Lib.hid hk; clear hk
  by_cases h0 : ls.length = 0
  · obtain rfl : ls = [] := List.eq_nil_of_length_eq_zero h0
    have HR := Lib.hid (show bothAns (lls []) = ([], 1) from bothAns_none)
    clear HK HPT HSM HKN h0 hvv
    go_enter Try.func9, Try.ntmps9
    go_wp2_with fail
    go_ret2
    exact ⟨_, by rw [HR.out]; rfl, by rw [HR.out]; exact Rd.nil _ _, (Below.refl _ w).alloc (Nat.le_refl _) _⟩
  have h1 : 0 < ls.length := by omega
  obtain ⟨R, hR⟩ : ∃ R, R = bothAns (lls ls) := ⟨_, rfl⟩
  rw [← hR]
  have HARG := Lib.hid (fun h => hR.trans (bothAns_arg (ls := lls ls) h))
  have HFORM := Lib.hid (fun h g => hR.trans (bothAns_form (ls := lls ls) h g))
  have HOK := Lib.hid (fun h g => hR.trans (bothAns_ok (ls := lls ls) h g))
  clear hR
  obtain ⟨n0, hn0⟩ : ∃ n0, n0 = lenV (lls ls) := ⟨_, rfl⟩
  have hn1 : ls[0].l.length = n0 := by rw [hn0, lenV_lls h1]
  have hnb : n0 ≤ 17592186043904 := by rw [← hn1]; exact HSM.out 0 h1
  obtain ⟨b, o, rfl, hk0⟩ := HK.out 0 h1
  rw [hn1] at hk0
  have HK0 := Lib.hid (fun W h => (show W.cell? ⟨b, o, none⟩ = some (.slice ls[0].A n0 ls[0].c) from hk0 W h))
  have HKI := Lib.hid (fun i (h : i < ls.length) => (show ∀ W, Below w.heap.size w W → W.cell? ⟨b, o + i, none⟩ = some (.slice ls[i].A ls[i].l.length ls[i].c) from by
    obtain ⟨b2, o2, e, h2⟩ := HK.out i h
    injection e with e
    injection e with e1 e2
    subst e1 e2
    exact h2))
  clear hk0 HK
  obtain ⟨w1, hw1⟩ : ∃ w1, w1 = w.alloc (.cells #[.slice (some ⟨b, o, none⟩) ls.length c] 22) := ⟨_, rfl⟩
  have hb1 : Below w.heap.size w w1 := by rw [hw1]; exact (Below.refl _ w).alloc (Nat.le_refl _) _
  have hz1 : w1.heap.size = w.heap.size + 1 := by rw [hw1]; simp
  have hc1 : ∀ W, Below w1.heap.size w1 W → W.cell? ⟨w.heap.size, 0, none⟩ = some (.slice (some ⟨b, o, none⟩) ls.length c) := fun W hW => by
    refine (hW.cell (p := ⟨w.heap.size, 0, none⟩) (by rw [hz1]; exact Nat.lt_succ_self _)).trans ?_
    rw [hw1]
    exact (Whole.fresh w 22 [.slice (some ⟨b, o, none⟩) ls.length c]).cell 0 _ rfl
  have hgz : w.heap.size ≤ w1.heap.size := by omega
  have hcon := lcontains_any ls w.heap.size n0 _ w1 (hvv.next hb1) (fun W hW => ⟨b, o, ls.length, c, _, _, h1, hc1 W hW, HK0.out W (hb1.trans (hW.mono hgz))⟩) hl
  rw [hn0, show decide (∃ j, ∃ h : j < ls.length, ls[j].l.length ≠ lenV (lls ls)) = decide (¬ evenV (lls ls)) from by simp only [evenV_iff h1]] at hcon
  have HN0 := Lib.hid hn0
  have HN1 := Lib.hid hn1
  have HC1 := Lib.hid hc1
  have HB1 := Lib.hid hb1
  have hne : ¬ (ls.length : Int) = 0 := by omega
  have hneb : ((ls.length : Int) == 0) = false := by simpa using hne
  clear hvv hn0 hn1 hc1 hb1 hz1
  by_cases hev : evenV (lls ls)
  case neg =>
    rw [decide_eq_true hev] at hcon
    have HC := Lib.hid hcon
    have HR := Lib.hid (HARG.out hev)
    clear hcon hev
    go_enter Try.func9, Try.ntmps9
    go_wp2_with fail
    rw [← hw1]
    clear hw1
    refine HC.out.mono ?_
    rintro e w2 ⟨rfl, hb2⟩
    have HB2 := Lib.hid (HB1.out.trans (hb2.mono hgz))
    clear hb2 hne hneb
    go_wp2_with fail
    go_ret2
    exact ⟨_, by rw [HR.out]; rfl, by rw [HR.out]; exact Rd.nil _ _, HB2.out⟩
  rw [decide_eq_false (by simpa using hev)] at hcon
  have HC := Lib.hid hcon
  have HEV := Lib.hid hev
  clear hcon hev
  go_enter Try.func9, Try.ntmps9
  go_wp2_with fail
  rw [← hw1]
  clear hw1
  refine HC.out.mono ?_
  rintro e w2 ⟨rfl, hb2⟩
  have hB2 : Below w.heap.size w w2 := HB1.out.trans (hb2.mono hgz)
  have k0 := HC1.out w2 hb2
  have k1 := HK0.out w2 hB2
  have hkn := HKN.out w2 (by exact hB2)
  have HB2 := Lib.hid hB2
  clear hb2 hB2 hne hneb HC HB1 HC1
  by_cases hall : allV (lls ls)
  case neg =>
    rw [decide_eq_false hall] at hkn
    have HKW := Lib.hid hkn
    have HR := Lib.hid (HFORM.out HEV.out hall)
    clear hkn hall
    go_wp2_with fail
    refine HKW.out.mono ?_
    rintro e w3 ⟨rfl, rfl⟩
    clear k0 k1
    go_wp2_with fail
    go_ret2
    exact ⟨_, by rw [HR.out]; rfl, by rw [HR.out]; exact Rd.nil _ _, HB2.out⟩
  rw [decide_eq_true hall] at hkn
  have HKW := Lib.hid hkn
  have hr := HOK.out HEV.out hall
  rw [← accV_all HEV.out hall, ← HN0.out] at hr
  have HR := Lib.hid hr
  clear hkn hall hr
  go_wp2_with fail
  refine HKW.out.mono ?_
  rintro e w3 ⟨rfl, rfl⟩
  have hgs : w.heap.size ≤ w3.heap.size := HB2.out.size
  have hlI : (0 : Int) < (ls.length : Int) := by omega
  obtain ⟨w4, hmk, ho4, hb4⟩ := run_makeK (P := Try.prog) (enc := encI) (k := 1) w.heap.size 23 3 8 _ _ 0 Try.underlying23 info_int rfl rfl encI_len (by decide) n0 w3 (by omega) (by unfold maxLen; omega) hgs
  have hW4 : Whole w4 w3.heap.size 3 ((accV (lls ls) n0 0 0).map (Value.int .i64)) := by
    rcases ho4.row with ⟨e, _⟩ | ⟨q, cap, cur, e, hbg, hw, h5, h6, h7, h8⟩
    · cases e
    · injection e with e1 e2 e3
      injection e1 with e1
      injection e1 with e1 _ _
      subst e1 e3
      rw [List.length_replicate, Nat.mul_one] at h8
      rw [List.take_of_length_le (by omega)] at h8
      rw [h8] at hw
      rw [accV_zero, show (List.replicate n0 (0 : Int)).map (Value.int .i64) = flatG encI (List.replicate n0 0) from by rw [flatG, List.map_replicate, List.flatMap_replicate]; simp [encI]]
      exact hw
  obtain ⟨q, hq⟩ : ∃ q, q = w3.heap.size := ⟨_, rfl⟩
  have hgq : w.heap.size ≤ q := by omega
  have HB4 := Lib.hid (HB2.out.trans (hb4.mono hgs))
  have k2 := (hb4.cell (p := ⟨w.heap.size, 0, none⟩) (by
    have : w3.cell? ⟨w.heap.size, 0, none⟩ ≠ none := by rw [k0]; simp
    exact Nat.lt_of_not_le fun h => this (by unfold World.cell?; rw [Array.getElem?_eq_none h]))).trans k0
  rw [← hq] at hmk hW4
  have HW4 := Lib.hid hW4
  clear ho4 hb4 hgs hW4 HB2 hq HKW HARG HFORM HOK HKN
  go_wp2_with fail
  clear k0 k1 k2 hmk
  go_loopw [31] (fun iv wr => ∃ i : Nat, i ≤ ls.length ∧ iv = .int .i64 i ∧ Hid (Whole wr q 3 ((accV (lls ls) n0 i 0).map (Value.int .i64))) ∧ Hid (Below w.heap.size w wr)) (fun iv _ => ls.length - (intOf iv).toNat)
  case atStart => exact ⟨0, Nat.zero_le _, rfl, HW4, HB4⟩
  case round =>
    obtain ⟨i, hil, rfl, HW, HB⟩ := hrel
    clear HW4 HB4
    by_cases hlt : i < ls.length
    · obtain ⟨wA, hwA⟩ : ∃ wA, wA = wr := ⟨_, rfl⟩
      rw [← hwA] at HW HB ⊢
      clear hwA
      have hll : ls[i].l.length = n0 := by rw [evenV_at HEV.out hlt, ← HN0.out]
      have k0 := HKI.out i hlt wA HB.out
      obtain ⟨A2, c2, ev, hc2, hx2⟩ := (HPT.out i hlt).keep
      have hst : ∀ j (h : j < ls[i].l.length), max (topV 0 ((colV (lls ls) j).take i)) ls[i].l[j] = topV 0 ((colV (lls ls) j).take (i + 1)) := fun j h => by
        rw [col_succ hlt h, topV_append]
        split <;> omega
      unfold LI.v at ev
      injection ev with ev1 _ ev3
      rw [ev1, hll] at k0
      rw [hll] at hc2
      clear ev1 ev3
      generalize ls[i].c = ci at k0
      generalize ls[i].l = l at hll hx2 hst
      have HX := Lib.hid (fun j (h : j < l.length) => hx2 j h)
      have HST := Lib.hid hst
      have HLL := Lib.hid hll
      have hI : (i : Int) < (ls.length : Int) := by omega
      clear hx2 hst hll
      go_wp2_with fail
      clear k0
      go_loopw [37] (fun jv wr => ∃ j : Nat, j ≤ n0 ∧ jv = .int .i64 j ∧ Hid (Whole wr q 3 ((accV (lls ls) n0 i j).map (Value.int .i64))) ∧ Hid (Below w.heap.size w wr)) (fun jv _ => n0 - (intOf jv).toNat)
      case atStart => exact ⟨0, Nat.zero_le _, rfl, HW, HB⟩
      case round =>
        obtain ⟨j, hjn, rfl, HWJ, HBJ⟩ := hrel
        clear HW HB
        by_cases hlj : j < n0
        · have hjl : j < l.length := by rw [HLL.out]; exact hlj
          obtain ⟨b2, o2, eA, hcx⟩ := HX.out j hjl
          subst eA
          have kx := hcx wr HBJ.out
          have hgv : (accV (lls ls) n0 i j)[j]'(by rw [accV_length]; exact hlj) = topV 0 ((colV (lls ls) j).take i) := by rw [accV_get hlj, if_neg (by omega)]
          have ky : wr.cell? ⟨q, j, none⟩ = some (.int .i64 (topV 0 ((colV (lls ls) j).take i))) := HWJ.out.cell j _ (by rw [List.getElem?_map, List.getElem?_eq_getElem (by rw [accV_length]; exact hlj), hgv]; rfl)
          have kf := HWJ.out.frozen j
          have hs := HST.out j hjl
          have hput := HWJ.out.put j (.int .i64 (max (topV 0 ((colV (lls ls) j).take i)) l[j]))
          rw [map_setI, accV_set hlj hs] at hput
          generalize topV 0 ((colV (lls ls) j).take i) = y at ky hput
          generalize l[j] = x at kx hput
          have HP := Lib.hid hput
          have HB2 := Lib.hid (show Below w.heap.size w (wr.setCell ⟨q, j, none⟩ (.int .i64 (max y x))) from HBJ.out.setCell hgq _)
          have hJ0 : (0 : Int) ≤ (j : Int) := by omega
          have hJ1 : (j : Int) < (n0 : Int) := by omega
          clear hput hs hgv hcx hjl
          go_wp2_with fail
          refine (worse_any y x _).mono ?_
          rintro e w5 ⟨rfl, rfl⟩
          go_wp2_with fail
          go_roundw
          case rel => exact ⟨j + 1, by omega, by go_num, HP, HB2⟩
          case measure => simp [intOf]; omega
        · obtain rfl : j = n0 := by omega
          have hw := HWJ.out
          rw [accV_next] at hw
          have HWN := Lib.hid hw
          clear hw
          go_wp2_with fail
          go_roundw
          case rel => exact ⟨i + 1, by omega, by go_num, HWN, HBJ⟩
          case measure => simp [intOf]; omega
    · obtain rfl : i = ls.length := by omega
      have HRD := Lib.hid (RdI.ofWhole HW.out (accV_length _ _ _ _))
      go_wp2_with fail
      go_ret2
      exact ⟨.slice (some ⟨q, 0, none⟩) n0 n0, by rw [HR.out]; rfl, by rw [HR.out]; exact HRD.out, HB.out⟩
end Go.Proofs.Ytmakgjokadcfjaa
namespace Go.Proofs.Ytmakgjokadcfjaa
open Go.RowKit
attribute [local go_sem] less_eq same_eq le_eq ge_eq gt_eq

set_option maxHeartbeats 4000000 in
set_option maxRecDepth 100000 in
theorem pcheck_any (c : Chg) (w : World) (hk : c.key.size < 9223372036854775807) (hv : c.val.size < 9223372036854775807) : Calls Try.prog 27 #[cval c] w fun e w' => e = .returned (.int .i64 (checkAns c)) ∧ Below w.heap.size w w' := by
  obtain ⟨k, x, y⟩ := c
  obtain ⟨R, hR⟩ : ∃ R, R = checkAns ⟨k, x, y⟩ := ⟨_, rfl⟩
  rw [← hR]
  unfold checkAns at hR
  unfold cval
  simp only at hR hk hv ⊢
  have HB := Lib.hid (((Below.refl _ w).alloc (Nat.le_refl _) (.cells #[.int .i64 k, .string x, .string y] 55)))
  by_cases h1 : k = 1
  · rw [if_pos h1] at hR
    subst h1
    by_cases ha : x.size > 16
    · rw [if_pos (.inl ha)] at hR
      have HR := Lib.hid hR; clear hR
      have ha1 : (16 : Int) < (x.size : Int) := by omega
      go_enter Try.func27, Try.ntmps27
      go_wp2_with fail
      go_ret
      exact ⟨by rw [HR.out]; rfl, HB.out⟩
    have ha1 : ¬ (16 : Int) < (x.size : Int) := by omega
    by_cases hb : y.size > 64
    · rw [if_pos (.inr hb)] at hR
      have HR := Lib.hid hR; clear hR
      have hb1 : (64 : Int) < (y.size : Int) := by omega
      go_enter Try.func27, Try.ntmps27
      go_wp2_with fail
      go_ret
      exact ⟨by rw [HR.out]; rfl, HB.out⟩
    rw [if_neg (by omega)] at hR
    have hb1 : ¬ (64 : Int) < (y.size : Int) := by omega
    have HR := Lib.hid hR; clear hR
    go_enter Try.func27, Try.ntmps27
    go_wp2_with fail
    go_ret
    exact ⟨by rw [HR.out]; rfl, HB.out⟩
  by_cases h2 : k = 2
  · rw [if_neg h1, if_pos h2] at hR
    subst h2
    clear h1
    by_cases hb : y = ⟨#[]⟩
    · subst hb
      by_cases ha : x.size > 16
      · rw [if_pos (.inl ha)] at hR
        have HR := Lib.hid hR; clear hR
        have ha1 : (16 : Int) < (x.size : Int) := by omega
        go_enter Try.func27, Try.ntmps27
        go_wp2_with fail
        go_ret
        exact ⟨by rw [HR.out]; rfl, HB.out⟩
      have ha1 : ¬ (16 : Int) < (x.size : Int) := by omega
      rw [if_neg (by have h0 : (⟨#[]⟩ : ByteArray).size = 0 := rfl
                     omega)] at hR
      have HR := Lib.hid hR; clear hR
      go_enter Try.func27, Try.ntmps27
      go_wp2_with fail
      go_ret
      exact ⟨by rw [HR.out]; rfl, HB.out⟩
    · have hy : y.size > 0 := by
        rcases Nat.eq_zero_or_pos y.size with h | h
        · exact absurd (ByteArray.ext (Array.eq_empty_of_size_eq_zero h)) hb
        · exact h
      have hne : (ByteArray.toList y).isEmpty = false := by
        rw [Lib.toList_data]
        cases hd : y.data.toList with
        | nil => exact absurd (ByteArray.ext (Array.toList_eq_nil_iff.1 hd)) hb
        | cons a r => rfl
      rw [if_pos (.inr hy)] at hR
      have HR := Lib.hid hR; clear hR
      go_enter Try.func27, Try.ntmps27
      go_wp2_with fail
      go_ret
      exact ⟨by rw [HR.out]; rfl, HB.out⟩
  by_cases h3 : k = 3
  · rw [if_neg h1, if_neg h2, if_pos h3] at hR
    subst h3
    clear h1 h2
    by_cases ha : x.size > 17
    · rw [if_pos (.inl ha)] at hR
      have HR := Lib.hid hR; clear hR
      have ha1 : (17 : Int) < (x.size : Int) := by omega
      go_enter Try.func27, Try.ntmps27
      go_wp2_with fail
      go_ret
      exact ⟨by rw [HR.out]; rfl, HB.out⟩
    have ha1 : ¬ (17 : Int) < (x.size : Int) := by omega
    by_cases hb : y.size > 17
    · rw [if_pos (.inr hb)] at hR
      have HR := Lib.hid hR; clear hR
      have hb1 : (17 : Int) < (y.size : Int) := by omega
      go_enter Try.func27, Try.ntmps27
      go_wp2_with fail
      go_ret
      exact ⟨by rw [HR.out]; rfl, HB.out⟩
    rw [if_neg (by omega)] at hR
    have hb1 : ¬ (17 : Int) < (y.size : Int) := by omega
    by_cases hl : y < x
    · rw [if_pos hl] at hR
      have HR := Lib.hid hR; clear hR
      go_enter Try.func27, Try.ntmps27
      go_wp2_with fail
      go_ret
      exact ⟨by rw [HR.out]; rfl, HB.out⟩
    rw [if_neg hl] at hR
    have HR := Lib.hid hR; clear hR
    go_enter Try.func27, Try.ntmps27
    go_wp2_with fail
    go_ret
    exact ⟨by rw [HR.out]; rfl, HB.out⟩
  rw [if_neg h1, if_neg h2, if_neg h3] at hR
  have HR := Lib.hid hR; clear hR
  go_enter Try.func27, Try.ntmps27
  go_wp2_with fail
  go_ret
  exact ⟨by rw [HR.out]; rfl, HB.out⟩

end Go.Proofs.Ytmakgjokadcfjaa
namespace Go.Proofs.Ytmakgjokadcfjaa
open Go.RowKit
attribute [local go_sem] less_eq same_eq le_eq ge_eq gt_eq

def satM (n : Nat) : Nat := min n 9223372036854775807
theorem room_sat (S x : Nat) (h : S ≤ 9223372036854775807) : IntKind.i64.wrap (9223372036854775807 - (S : Int)) = 9223372036854775807 - (S : Int) ∧ ((9223372036854775807 - (S : Int) < (x : Int)) ↔ 9223372036854775807 < S + x) ∧ (S + x ≤ 9223372036854775807 → IntKind.i64.wrap ((S : Int) + (x : Int)) = (S : Int) + (x : Int)) := by
  refine ⟨?_, ?_, fun _ => ?_⟩
  · rw [IntKind.wrap_i64]; omega
  · omega
  · rw [IntKind.wrap_i64]; omega

set_option maxHeartbeats 2000000 in
set_option maxRecDepth 100000 in
theorem add3s_any (s a b d : Nat) (hs : s ≤ 9223372036854775807) (w : World) (vb : Nat) (hv : Whole w vb 3 [.int .i64 a, .int .i64 b, .int .i64 d]) :
    Calls Try.prog 37 #[.int .i64 s, .slice (some ⟨vb, 0, none⟩) 3 3] w fun e w' => e = .returned (.int .i64 ((satM (s + a + b + d) : Nat) : Int)) ∧ w' = w := by
  have k0 := hv.cell 0 _ rfl
  have k1 := hv.cell 1 _ rfl
  have k2 := hv.cell 2 _ rfl
  clear hv
  obtain ⟨f, hf⟩ : ∃ f : Nat → Nat, f = fun i => if i = 0 then s else if i = 1 then s + a else if i = 2 then s + a + b else s + a + b + d := ⟨_, rfl⟩
  obtain ⟨x, hx⟩ : ∃ x : Nat → Nat, x = fun i => if i = 0 then a else if i = 1 then b else d := ⟨_, rfl⟩
  have hc : ∀ i, i < 3 → w.cell? ⟨vb, i, none⟩ = some (.int .i64 (x i)) := fun i hi => by
    match i, hi with
    | 0, _ => rw [hx]; exact k0
    | 1, _ => rw [hx]; exact k1
    | 2, _ => rw [hx]; exact k2
  have hstep : ∀ i, i < 3 → f (i + 1) = f i + x i ∧ f i + x i ≤ f 3 := fun i hi => by
    match i, hi with
    | 0, _ => rw [hf, hx]; simp; omega
    | 1, _ => rw [hf, hx]; simp
    | 2, _ => rw [hf, hx]; simp
  have h0 : s = f 0 := by rw [hf]; rfl
  have h3 : s + a + b + d = f 3 := by rw [hf]; rfl
  rw [h3]
  rw [h0] at hs ⊢
  have HC := Lib.hid hc
  have HS := Lib.hid hstep
  obtain ⟨R, hR⟩ : ∃ R, R = satM (f 3) := ⟨_, rfl⟩
  rw [← hR]
  have HBIG := Lib.hid (fun (h : 9223372036854775807 < f 3) => (show R = 9223372036854775807 by rw [hR]; unfold satM; omega))
  have HFIN := Lib.hid (fun (h : f 3 ≤ 9223372036854775807) => (show R = f 3 by rw [hR]; unfold satM; omega))
  clear hc hstep h0 h3 hf hx k0 k1 k2 hR
  go_enter Try.func37, Try.ntmps37
  go_wp2_with fail
  go_loop [0, 9] (fun sv iv => ∃ i : Nat, i ≤ 3 ∧ iv = .int .i64 i ∧ sv = .int .i64 (f i) ∧ f i ≤ 9223372036854775807) (fun _ iv => 3 - (intOf iv).toNat)
  case atStart => exact ⟨0, Nat.zero_le _, rfl, rfl, hs⟩
  case round =>
    obtain ⟨i, hi, rfl, rfl, hfi⟩ := hrel
    clear hs
    by_cases hlt : i < 3
    · have g := HC.out i hlt
      obtain ⟨e1, e2⟩ := HS.out i hlt
      obtain ⟨r1, r2, r3⟩ := room_sat (f i) (x i) hfi
      have E1 := Lib.hid e1
      have hi3 : (i : Int) < 3 := by omega
      by_cases hov : 9223372036854775807 < f i + x i
      · have r4 := r2.2 hov
        have HR := Lib.hid (HBIG.out (by omega))
        clear e1 e2 r2 r3 hov hfi
        go_wp2_with fail
        go_ret
        exact ⟨by rw [HR.out]; rfl, rfl⟩
      · have r4 : ¬ (9223372036854775807 - (f i : Int) < (x i : Int)) := fun h => hov (r2.1 h)
        have r5 := r3 (by omega)
        have hn : f i + x i ≤ 9223372036854775807 := by omega
        have HN := Lib.hid hn
        clear e1 e2 r2 r3 hov hfi hn
        go_wp2_with fail
        exact ⟨⟨i + 1, by omega, by go_num, by rw [E1.out]; simp, by rw [E1.out]; exact HN.out⟩, by simp [intOf]; omega⟩
    · obtain rfl : i = 3 := by omega
      have HR := Lib.hid (HFIN.out hfi)
      go_wp2_with fail
      go_ret
      exact ⟨by rw [HR.out]; rfl, rfl⟩

theorem satM_step (S x : Nat) : satM (satM S + x) = satM (S + x) := by unfold satM; omega
theorem satM_le (S : Nat) : satM S ≤ 9223372036854775807 := by unfold satM; omega

set_option maxHeartbeats 2000000 in
set_option maxRecDepth 100000 in
theorem weights_any (l : List Chg) (hs : ∀ c ∈ l, smallC c) (v : Value) (w : World) (hv : RdC w w.heap.size v l) (hl : l.length < 4611686018427387904) :
    Calls Try.prog 32 #[v] w fun e w' => e = .returned (.int .i64 (satM (sumC l) : Nat)) ∧ Below w.heap.size w w' := by
  obtain ⟨A, c, rfl, hc, hi⟩ := hv.at
  have HI := Lib.hid hi; clear hi
  have HS := Lib.hid hs; clear hs
  clear hv
  obtain ⟨R, hR⟩ : ∃ R, R = satM (sumC l) := ⟨_, rfl⟩
  rw [← hR]
  have HR := Lib.hid hR; clear hR
  obtain ⟨g, hg⟩ : ∃ g, g = w.heap.size := ⟨_, rfl⟩
  have HG := Lib.hid hg; clear hg
  go_enter Try.func32, Try.ntmps32
  go_wp2_with fail
  go_loopw [3, 8] (fun sv iv wr => ∃ i S : Nat, i ≤ l.length ∧ iv = .int .i64 i ∧ sv = .int .i64 S ∧ Below g w wr ∧ Hid (S = satM (sumC (l.take i)))) (fun _ iv _ => l.length - (intOf iv).toNat)
  case atStart => exact ⟨0, 0, Nat.zero_le _, rfl, rfl, Below.refl _ _, Lib.hid (by simp [sumC, satM])⟩
  case round =>
    obtain ⟨i, S, hil, rfl, rfl, hbw, HSM⟩ := hrel
    have HBW := Lib.hid hbw; clear hbw
    by_cases hlt : i < l.length
    · obtain ⟨b, o, rfl, hbB, k0, k1, k2⟩ := HI.out i hlt
      have hsm := HS.out l[i] (List.getElem_mem hlt)
      have hst := congrArg satM (sumC_succ hlt)
      rw [← satM_step, ← HSM.out] at hst
      have hM : S ≤ 9223372036854775807 := by rw [HSM.out]; exact satM_le _
      rw [← HBW.out.cell (p := ⟨b, _, none⟩) (by rw [HG.out]; exact hbB)] at k0
      rw [← HBW.out.cell (p := ⟨b, _, none⟩) (by rw [HG.out]; exact hbB)] at k1
      rw [← HBW.out.cell (p := ⟨b, _, none⟩) (by rw [HG.out]; exact hbB)] at k2
      generalize l[i] = z at k0 k1 k2 hsm hst
      obtain ⟨kz, xz, yz⟩ := z
      unfold smallC at hsm
      simp only at k0 k1 k2 hsm hst
      have hadd := fun W vb h => add3s_any S 8 xz.size yz.size hM W vb h
      rw [show S + 8 + xz.size + yz.size = S + (xz.size + yz.size + 8) by omega] at hadd
      have HA := Lib.hid hadd; clear hadd
      have HST := Lib.hid hst; clear hst
      clear hM
      go_wp2_with fail
      have HB2 := Lib.hid (show Below g w ((wr.alloc (.cells #[.int .i64 kz, .string xz, .string yz] 55)).alloc (.cells #[.int .i64 8, .int .i64 (xz.size : Nat), .int .i64 (yz.size : Nat)] 3)) from (HBW.out.alloc (by rw [HG.out]; exact HBW.out.size) _).alloc (by rw [World.size_alloc, HG.out]; have := HBW.out.size; omega) _)
      refine (HA.out _ (wr.heap.size + 1) ?_).mono ?_
      · have h := Whole.fresh (wr.alloc (.cells #[.int .i64 kz, .string xz, .string yz] 55)) 3 [.int .i64 8, .int .i64 (xz.size : Nat), .int .i64 (yz.size : Nat)]
        rw [World.size_alloc] at h
        exact h
      rintro e w2 ⟨rfl, rfl⟩
      clear hsm
      go_wp2_with fail
      go_roundw
      case rel => exact ⟨i + 1, _, by omega, by go_num, rfl, HB2.out, Lib.hid HST.out.symm⟩
      case measure => simp [intOf]; omega
    · have hS := HSM.out
      rw [List.take_of_length_le (by omega), ← HR.out] at hS
      have HS2 := Lib.hid hS; clear hS
      go_wp2_with fail
      go_ret
      exact ⟨by rw [← HS2.out]; rfl, by have h := HBW.out; rwa [HG.out] at h⟩

/-! ### is anything of it too large? -/
theorem mem_le_sum {l : List Nat} {x : Nat} (h : x ∈ l) : x ≤ l.sum := by
  induction l with
  | nil => cases h
  | cons y l ih =>
    rw [List.sum_cons]
    rcases List.mem_cons.1 h with rfl | h
    · omega
    · have := ih h; omega
theorem sumC_mem {l : List Chg} {c : Chg} (h : c ∈ l) : c.key.size + c.val.size + 8 ≤ sumC l := mem_le_sum (List.mem_map.2 ⟨c, h, rfl⟩)
theorem big_iff {t : Txn} (h1 : t.reads.length ≤ 24) (h2 : t.chgs.length ≤ 24) (h4 : shortTo t.reads t.reads.length) : bigT t ↔ 512 < sumC t.chgs + sumS t.reads := by
  constructor
  · rintro (h | h | ⟨c, hc, h⟩ | ⟨s, hs, h⟩ | h)
    · omega
    · omega
    · have := sumC_mem hc; omega
    · obtain ⟨j, hj, rfl⟩ := List.mem_iff_getElem.1 hs
      have := h4 j hj hj
      omega
    · exact h
  · exact fun h => .inr (.inr (.inr (.inr h)))
theorem big_span {t : Txn} {i : Nat} (hi : i < t.reads.length) (h : 17 < t.reads[i].1.size ∨ 17 < t.reads[i].2.size) : bigT t := .inr (.inr (.inr (.inl ⟨_, List.getElem_mem hi, h⟩)))
theorem short_step {l : List (K × K)} {i : Nat} (hi : i < l.length) (h : shortTo l i) (g1 : ¬ 17 < l[i].1.size) (g2 : ¬ 17 < l[i].2.size) : shortTo l (i + 1) := fun j hj hji => by
  by_cases e : j < i
  · exact h j hj e
  · obtain rfl : j = i := by omega
    omega
end Go.Proofs.Ytmakgjokadcfjaa
namespace Go.Proofs.Ytmakgjokadcfjaa
open Go.RowKit
attribute [local go_sem] less_eq same_eq le_eq ge_eq gt_eq

set_option maxHeartbeats 4000000 in
set_option maxRecDepth 100000 in
theorem large_any (t : Txn) (hft : fitT t) (v1 v2 : Value) (w : World) (hv1 : RdP w w.heap.size v1 t.reads) (hv2 : RdC w w.heap.size v2 t.chgs) :
    Calls Try.prog 24 #[tval t v1 v2] w fun e w' => e = .returned (.bool (decide (bigT t))) ∧ Below w.heap.size w w' := by
  obtain ⟨h1, h2, h3, h4⟩ := hft
  obtain ⟨w1, hw1⟩ : ∃ w1, w1 = w.alloc (.cells #[.int .i64 t.read, v1, v2] 34) := ⟨_, rfl⟩
  have hb1 : Below w.heap.size w w1 := by rw [hw1]; exact (Below.refl _ w).alloc (Nat.le_refl _) _
  have hwh1 : Whole w1 w.heap.size 34 [.int .i64 t.read, v1, v2] := by rw [hw1]; exact Whole.fresh w _ _
  have HWT := Lib.hid (fun W (h : Below w.heap.size w W) => weights_any t.chgs h4 v2 W (hv2.next h) h3)
  obtain ⟨A1, c1, rfl, -, hi⟩ := RdP.keep hv1
  obtain ⟨A2, c2, rfl, -, -⟩ := hv2.at
  have HI := Lib.hid (fun i (h : i < t.reads.length) => hi i h)
  have HSZ := Lib.hid (fun i (h : i < t.reads.length) => h2 t.reads[i] (List.getElem_mem h))
  obtain ⟨R, hR⟩ : ∃ R, R = decide (bigT t) := ⟨_, rfl⟩
  rw [← hR]
  have HYES := Lib.hid (fun (e : bigT t) => (show R = true by rw [hR]; exact decide_eq_true e))
  have HNO := Lib.hid (fun (e : ¬ bigT t) => (show R = false by rw [hR]; exact decide_eq_false e))
  have HB1 := Lib.hid hb1
  have HW1 := Lib.hid hwh1
  unfold tval
  clear hv1 hv2 hi hR h2 h4 hb1 hwh1
  by_cases g1 : (24 : Int) < (t.reads.length : Int)
  · have HR := Lib.hid (HYES.out (.inl (by omega)))
    go_enter Try.func24, Try.ntmps24
    go_wp2_with fail
    go_ret
    exact ⟨by rw [HR.out]; rfl, by rw [← hw1]; exact HB1.out⟩
  by_cases g2 : (24 : Int) < (t.chgs.length : Int)
  · have HR := Lib.hid (HYES.out (.inr (.inl (by omega))))
    go_enter Try.func24, Try.ntmps24
    go_wp2_with fail
    go_ret
    exact ⟨by rw [HR.out]; rfl, by rw [← hw1]; exact HB1.out⟩
  have hl24 : t.reads.length ≤ 24 := by omega
  have HL2 := Lib.hid (show t.chgs.length ≤ 24 by omega)
  go_enter Try.func24, Try.ntmps24
  go_wp2_with fail
  rw [← hw1]
  clear hw1 g1 g2
  go_loopw [3, 19] (fun lv iv wr => ∃ i S : Nat, i ≤ t.reads.length ∧ iv = .int .i64 i ∧ lv = .int .i64 (512 - (S : Int)) ∧ S ≤ 42 * i ∧ Hid (S = sumS (t.reads.take i)) ∧ Hid (shortTo t.reads i) ∧ Hid (Below w.heap.size w wr) ∧ Hid (Whole wr w.heap.size 34 [.int .i64 t.read, .slice A1 t.reads.length c1, .slice A2 t.chgs.length c2])) (fun _ iv _ => t.reads.length - (intOf iv).toNat)
  case atStart => exact ⟨0, 0, Nat.zero_le _, rfl, rfl, Nat.le_refl _, Lib.hid (by simp [sumS]), Lib.hid (fun j _ h => by omega), HB1, HW1⟩
  case round =>
    obtain ⟨i, S, hil, rfl, rfl, hSb, HS, HSH, HB, HW⟩ := hrel
    clear HB1 HW1
    by_cases hlt : i < t.reads.length
    · obtain ⟨b, o, rfl, hcell⟩ := HI.out i hlt
      obtain ⟨k0, k1⟩ := hcell wr HB.out
      clear hcell
      have hsz := HSZ.out i hlt
      have hbig := fun e => big_span hlt e
      have hshort := fun e1 e2 => short_step hlt HSH.out e1 e2
      have hsum := sumS_succ hlt
      rw [← HS.out] at hsum
      have hgs : w.heap.size ≤ wr.heap.size := HB.out.size
      generalize t.reads[i] = z at k0 k1 hsz hbig hshort hsum
      obtain ⟨x, y⟩ := z
      simp only at k0 k1 hsz hbig hshort hsum
      have HBIG := Lib.hid hbig
      have HSHT := Lib.hid hshort
      have HSUM := Lib.hid hsum
      have HB2 := Lib.hid (show Below w.heap.size w (wr.alloc (.cells #[.string x, .string y] 52)) from HB.out.alloc hgs _)
      have HW2 := Lib.hid (HW.out.alloc (.cells #[.string x, .string y] 52))
      have hI : (i : Int) < (t.reads.length : Int) := by omega
      clear hbig hshort hsum hgs
      by_cases gx : (17 : Int) < (x.size : Int)
      · have HR := Lib.hid (HYES.out (HBIG.out (.inl (by omega))))
        go_wp2_with fail
        go_ret
        exact ⟨by rw [HR.out]; rfl, HB2.out⟩
      by_cases gy : (17 : Int) < (y.size : Int)
      · have HR := Lib.hid (HYES.out (HBIG.out (.inr (by omega))))
        go_wp2_with fail
        go_ret
        exact ⟨by rw [HR.out]; rfl, HB2.out⟩
      have HSH2 := Lib.hid (HSHT.out (by omega) (by omega))
      have q1 : IntKind.i64.wrap (8 + (x.size : Int)) = 8 + (x.size : Int) := by rw [IntKind.wrap_i64]; omega
      have q2 : IntKind.i64.wrap (8 + (x.size : Int) + (y.size : Int)) = 8 + (x.size : Int) + (y.size : Int) := by rw [IntKind.wrap_i64]; omega
      have q3 : IntKind.i64.wrap (512 - (S : Int) - (8 + (x.size : Int) + (y.size : Int))) = 512 - ((S + (x.size + y.size + 8) : Nat) : Int) := by rw [IntKind.wrap_i64]; omega
      have hSb2 : S + (x.size + y.size + 8) ≤ 42 * (i + 1) := by omega
      have HSB := Lib.hid hSb2
      clear hSb hSb2 hsz
      go_wp2_with fail
      go_roundw
      case rel => exact ⟨i + 1, S + (x.size + y.size + 8), by omega, by go_num, rfl, HSB.out, Lib.hid HSUM.out.symm, HSH2, HB2, HW2⟩
      case measure => simp [intOf]; omega
    · obtain rfl : i = t.reads.length := by omega
      have hs := HS.out
      rw [List.take_length] at hs
      have hiff := big_iff hl24 HL2.out HSH.out
      rw [← hs] at hiff
      have c2' := HW.out.cell 2 _ rfl
      clear HS hs
      have HC := Lib.hid (HWT.out wr HB.out)
      generalize sumC t.chgs = q at hiff HC
      go_wp2_with fail
      refine HC.out.mono ?_
      rintro e w2 ⟨rfl, hb2⟩
      have HB2 := Lib.hid (HB.out.trans (hb2.mono HB.out.size))
      have hd : R = decide (512 - (S : Int) < ((satM q : Nat) : Int)) := by
        by_cases e : bigT t
        · rw [HYES.out e]
          have := hiff.1 e
          exact (decide_eq_true (by unfold satM; omega)).symm
        · rw [HNO.out e]
          have : ¬ 512 < q + S := fun h => e (hiff.2 h)
          exact (decide_eq_false (by unfold satM; omega)).symm
      have HD := Lib.hid hd
      clear hb2 hd hiff
      go_wp2_with fail
      go_ret
      exact ⟨by rw [HD.out]; rfl, HB2.out⟩

/-! ### Check -/
theorem all_drop : ∀ {l : List Chg} {i : Nat}, (∀ j (_ : j < l.length), j < i → checkAns l[j] = 0) → allAns l = allAns (l.drop i)
  | [], i, _ => by simp
  | c :: l, 0, _ => rfl
  | c :: l, i + 1, h => by
    have h0 : checkAns c = 0 := h 0 (by simp) (by omega)
    have ih := all_drop (l := l) (i := i) fun j hj hji => by
      have := h (j + 1) (by simpa using hj) (by omega)
      simpa using this
    rw [allAns, if_pos h0, ih]
    rfl
theorem all_at {l : List Chg} {i : Nat} (hi : i < l.length) (h : ∀ j (_ : j < l.length), j < i → checkAns l[j] = 0) (g : checkAns l[i] ≠ 0) : allAns l = checkAns l[i] := by
  rw [all_drop h, List.drop_eq_getElem_cons hi, allAns, if_neg g]
theorem all_none {l : List Chg} (h : ∀ j (_ : j < l.length), j < l.length → checkAns l[j] = 0) : allAns l = 0 := by
  rw [all_drop h, List.drop_length, allAns]

set_option maxHeartbeats 4000000 in
set_option maxRecDepth 100000 in
theorem pcheckT_any (t : Txn) (hft : fitT t) (v1 v2 : Value) (w : World) (hv1 : RdP w w.heap.size v1 t.reads) (hv2 : RdC w w.heap.size v2 t.chgs) :
    Calls Try.prog 13 #[tval t v1 v2] w fun e w' => e = .returned (.int .i64 (checkT t)) ∧ Below w.heap.size w w' := by
  obtain ⟨w1, hw1⟩ : ∃ w1, w1 = w.alloc (.cells #[.int .i64 t.read, v1, v2] 34) := ⟨_, rfl⟩
  have hb1 : Below w.heap.size w w1 := by rw [hw1]; exact (Below.refl _ w).alloc (Nat.le_refl _) _
  have hwh1 : Whole w1 w.heap.size 34 [.int .i64 t.read, v1, v2] := by rw [hw1]; exact Whole.fresh w _ _
  have HLA := Lib.hid (fun W (h : Below w.heap.size w W) => large_any t hft v1 v2 W (hv1.next h) (hv2.next h))
  obtain ⟨h1, h2, h3, h4⟩ := hft
  have HCO := Lib.hid (fun W (h : Below w.heap.size w W) => scontains_any t.reads v1 W (hv1.next h) h1)
  obtain ⟨A1, c1, rfl, -, -⟩ := hv1.at
  obtain ⟨A2, c2, rfl, -, hi⟩ := hv2.at
  have HI := Lib.hid hi
  have HSM := Lib.hid (fun i (h : i < t.chgs.length) => h4 t.chgs[i] (List.getElem_mem h))
  obtain ⟨R, hR⟩ : ∃ R, R = checkT t := ⟨_, rfl⟩
  rw [← hR]
  have HB1 := Lib.hid hb1
  have HW1 := Lib.hid hwh1
  have hz1 : w.heap.size ≤ w1.heap.size := hb1.size
  unfold tval at HLA ⊢
  clear hv1 hv2 hi h1 h2 h4 hb1 hwh1
  by_cases g0 : t.read < 0
  · have HR := Lib.hid (hR.trans (checkT_arg g0))
    clear hR
    go_enter Try.func13, Try.ntmps13
    go_wp2_with fail
    go_ret
    exact ⟨by rw [HR.out]; rfl, by rw [← hw1]; exact HB1.out⟩
  have HL := Lib.hid (HLA.out w1 HB1.out)
  by_cases g1 : bigT t
  · have HR := Lib.hid (hR.trans (checkT_big g0 g1))
    rw [decide_eq_true g1] at HL
    clear hR g1
    go_enter Try.func13, Try.ntmps13
    go_wp2_with fail
    rw [← hw1]
    clear hw1
    refine HL.out.mono ?_
    rintro e w2 ⟨rfl, hb2⟩
    have HB2 := Lib.hid (HB1.out.trans (hb2.mono hz1))
    clear hb2
    go_wp2_with fail
    go_ret
    exact ⟨by rw [HR.out]; rfl, HB2.out⟩
  rw [decide_eq_false g1] at HL
  by_cases g2 : ∃ j, ∃ h : j < t.reads.length, t.reads[j].2 < t.reads[j].1
  · have HR := Lib.hid (hR.trans (checkT_turned g0 g1 (by obtain ⟨j, h, e⟩ := g2; exact ⟨_, List.getElem_mem h, e⟩)))
    rw [decide_eq_true g2] at HCO
    clear hR g1 g2
    go_enter Try.func13, Try.ntmps13
    go_wp2_with fail
    rw [← hw1]
    clear hw1
    refine HL.out.mono ?_
    rintro e w2 ⟨rfl, hb2⟩
    have HB2 := Lib.hid (HB1.out.trans (hb2.mono hz1))
    have k1 := (HW1.out.below hb2 HW1.out.size).cell 1 _ rfl
    have HC := Lib.hid (HCO.out w2 HB2.out)
    clear hb2
    go_wp2_with fail
    refine HC.out.mono ?_
    rintro e w3 ⟨rfl, hb3⟩
    have HB3 := Lib.hid (HB2.out.trans (hb3.mono HB2.out.size))
    clear hb3 k1
    go_wp2_with fail
    go_ret
    exact ⟨by rw [HR.out]; rfl, HB3.out⟩
  rw [decide_eq_false g2] at HCO
  have hr := hR.trans (checkT_rest g0 g1 (fun j h _ e => g2 ⟨j, h, e⟩))
  have HR := Lib.hid hr
  clear hR hr g1 g2
  go_enter Try.func13, Try.ntmps13
  go_wp2_with fail
  rw [← hw1]
  clear hw1
  refine HL.out.mono ?_
  rintro e w2 ⟨rfl, hb2⟩
  have HB2 := Lib.hid (HB1.out.trans (hb2.mono hz1))
  have HW2 := Lib.hid (HW1.out.below hb2 HW1.out.size)
  have k1 := HW2.out.cell 1 _ rfl
  have HC := Lib.hid (HCO.out w2 HB2.out)
  clear hb2
  go_wp2_with fail
  refine HC.out.mono ?_
  rintro e w3 ⟨rfl, hb3⟩
  have HB3 := Lib.hid (HB2.out.trans (hb3.mono HB2.out.size))
  have k2 := (HW2.out.below hb3 HW2.out.size).cell 2 _ rfl
  clear hb3 k1 HC HL HCO HLA HW1 HW2 HB1 HB2
  go_wp2_with fail
  clear k2
  go_loopw [20] (fun iv wr => ∃ i : Nat, i ≤ t.chgs.length ∧ iv = .int .i64 i ∧ Hid (∀ j (_ : j < t.chgs.length), j < i → checkAns t.chgs[j] = 0) ∧ Hid (Below w.heap.size w wr)) (fun iv _ => t.chgs.length - (intOf iv).toNat)
  case atStart => exact ⟨0, Nat.zero_le _, rfl, Lib.hid (fun j _ h => by omega), HB3⟩
  case round =>
    obtain ⟨i, hil, rfl, HP, HB⟩ := hrel
    clear HB3
    by_cases hlt : i < t.chgs.length
    · obtain ⟨b, o, rfl, hbB, k0, k1, k2⟩ := HI.out i hlt
      rw [← HB.out.cell (p := ⟨b, _, none⟩) hbB] at k0
      rw [← HB.out.cell (p := ⟨b, _, none⟩) hbB] at k1
      rw [← HB.out.cell (p := ⟨b, _, none⟩) hbB] at k2
      have hsm := HSM.out i hlt
      have hst : checkAns t.chgs[i] = 0 → ∀ j (_ : j < t.chgs.length), j < i + 1 → checkAns t.chgs[j] = 0 := fun e j hj hji => by
        by_cases h : j < i
        · exact HP.out j hj h
        · obtain rfl : j = i := by omega
          exact e
      have hat := fun e => HR.out.trans (all_at hlt HP.out e)
      have HST := Lib.hid hst
      have HAT := Lib.hid hat
      have hI : (i : Int) < (t.chgs.length : Int) := by omega
      clear hst hat
      generalize t.chgs[i] = z at k0 k1 k2 hsm HST HAT
      have hck := fun W => pcheck_any z W (by unfold smallC at hsm; omega) (by unfold smallC at hsm; omega)
      unfold cval at hck
      generalize checkAns z = q at hck HST HAT
      obtain ⟨kz, xz, yz⟩ := z
      simp only at k0 k1 k2 hck
      have HCK := Lib.hid hck
      have HBA := Lib.hid (show Below w.heap.size w (wr.alloc (.cells #[.int .i64 kz, .string xz, .string yz] 55)) from HB.out.alloc HB.out.size _)
      have hza : w.heap.size ≤ (wr.alloc (.cells #[.int .i64 kz, .string xz, .string yz] 55)).heap.size := HBA.out.size
      clear hck hsm
      by_cases hq : q = 0
      · have HP2 := Lib.hid (HST.out hq)
        subst hq
        go_wp2_with fail
        refine (HCK.out _).mono ?_
        rintro e w4 ⟨rfl, hb4⟩
        have HB4 := Lib.hid (HBA.out.trans (hb4.mono hza))
        clear hb4 k0 k1 k2
        go_wp2_with fail
        go_roundw
        case rel => exact ⟨i + 1, by omega, by go_num, HP2, HB4⟩
        case measure => simp [intOf]; omega
      · have HR2 := Lib.hid (HAT.out hq)
        have hqb : (q == 0) = false := by simpa using hq
        go_wp2_with fail
        refine (HCK.out _).mono ?_
        rintro e w4 ⟨rfl, hb4⟩
        have HB4 := Lib.hid (HBA.out.trans (hb4.mono hza))
        clear hb4 k0 k1 k2
        go_wp2_with fail
        go_ret
        exact ⟨by rw [HR2.out]; rfl, HB4.out⟩
    · obtain rfl : i = t.chgs.length := by omega
      have HR2 := Lib.hid (HR.out.trans (all_none HP.out))
      go_wp2_with fail
      go_ret
      exact ⟨by rw [HR2.out]; rfl, HB.out⟩
end Go.Proofs.Ytmakgjokadcfjaa
namespace Go.Proofs.Ytmakgjokadcfjaa
open Go.RowKit

set_option maxRecDepth 100000 in
theorem byte_lt (c : UInt8) : c.toNat < 256 := c.toNat_lt
/-- a byte's cell -/
def byteEnc (c : UInt8) : List Value := [.int .u8 (c.toNat : Int)]
set_option maxRecDepth 100000 in
theorem byteEnc_len (c : UInt8) : (byteEnc c).length = 1 := rfl
set_option maxRecDepth 100000 in
theorem byteEnc_one (c : UInt8) : ∀ u ∈ byteEnc c, u.oneCell' = true := by simp [byteEnc, Value.oneCell']
abbrev RdB (w : World) (B : Nat) (v : Value) (l : List UInt8) : Prop := Rd byteEnc 1 w B v l
set_option maxRecDepth 100000 in
theorem RdB.at {w : World} {B : Nat} {v : Value} {l : List UInt8} (h : RdB w B v l) : ∃ A c, v = .slice A l.length c ∧ l.length ≤ c ∧ ∀ i (_ : i < l.length), ∃ b o, A = some ⟨b, o, none⟩ ∧ b < B ∧ w.cell? ⟨b, o + i, none⟩ = some (.int .u8 (l[i].toNat : Int)) := by
  obtain ⟨A, c, hv, hc, hi⟩ := h
  refine ⟨A, c, hv, hc, fun i hs => ?_⟩
  obtain ⟨b, o, hA, hB, h1⟩ := hi i hs
  have := h1 0 _ rfl
  simp only [Nat.mul_one, Nat.add_zero] at this
  exact ⟨b, o, hA, hB, this⟩
set_option maxRecDepth 100000 in
theorem info_u8 : (Try.prog.info? 5).map (fun i => (i.zero, i.size, i.bytes)) = some (some (.int .u8 0), 1, 1) := by kernel_rfl

/-- the cells of bytes -/
def cellsB (l : List UInt8) : List Value := l.map fun c => .int .u8 (c.toNat : Int)
set_option maxRecDepth 100000 in
theorem cellsB_len (l : List UInt8) : (cellsB l).length = l.length := by simp [cellsB]
set_option maxRecDepth 100000 in
theorem flat_cellsB (l : List UInt8) : flatG byteEnc l = cellsB l := by
  induction l with
  | nil => rfl
  | cons c l ih => rw [cellsB, List.map_cons, ← cellsB, ← ih]; rfl
set_option maxRecDepth 100000 in
theorem cellsB_get (l : List UInt8) (i : Nat) (h : i < l.length) : (cellsB l)[i]? = some (.int .u8 (l[i].toNat : Int)) := by simp [cellsB, h]
set_option maxRecDepth 100000 in
theorem cellsB_one (l : List UInt8) : ∀ v ∈ cellsB l, v.oneCell' = true := by
  intro v hv
  obtain ⟨c, _, rfl⟩ := List.mem_map.1 hv
  rfl
set_option maxRecDepth 100000 in
theorem cellsB_append (a b : List UInt8) : cellsB (a ++ b) = cellsB a ++ cellsB b := by simp [cellsB]
set_option maxRecDepth 100000 in
theorem cellsB_set (l : List UInt8) (i : Nat) (c : UInt8) : cellsB (l.set i c) = (cellsB l).set i (.int .u8 (c.toNat : Int)) := by simp [cellsB, List.map_set]

/-- a whole row of bytes -/
def RowB (w : World) (g : Nat) (l : List UInt8) : Prop := w.heap[g]? = some (.cells (cellsB l).toArray 5 (0, 0))
set_option maxRecDepth 100000 in
theorem RowB.lt {w : World} {g : Nat} {l : List UInt8} (h : RowB w g l) : g < w.heap.size := (Array.getElem?_eq_some_iff.1 h).1
set_option maxRecDepth 100000 in
theorem RowB.cell {w : World} {g : Nat} {l : List UInt8} (h : RowB w g l) (i : Nat) (hi : i < l.length) : w.cell? ⟨g, i, none⟩ = some (.int .u8 (l[i].toNat : Int)) := by
  unfold RowB at h
  simp only [World.cell?, h, List.getElem?_toArray]
  exact cellsB_get l i hi
set_option maxRecDepth 100000 in
theorem RowB.frozen {w : World} {g : Nat} {l : List UInt8} (h : RowB w g l) (i : Nat) : w.frozen? ⟨g, i, none⟩ = false := by
  unfold RowB at h
  simp [World.frozen?, h]
set_option maxRecDepth 100000 in
theorem RowB.set {w : World} {g : Nat} {l : List UInt8} (h : RowB w g l) (i : Nat) (c : UInt8) : RowB (w.setCell ⟨g, i, none⟩ (.int .u8 (c.toNat : Int))) g (l.set i c) := by
  unfold RowB at h ⊢
  rw [cellsB_set]
  simp [World.setCell, Array.getElem?_modify, h]
set_option maxRecDepth 100000 in
theorem RowB.below {w w' : World} {g B : Nat} {l : List UInt8} (h : RowB w g l) (hb : Below B w w') (hg : g < B) : RowB w' g l := (hb.block g hg).trans h
set_option maxRecDepth 100000 in
theorem RowB.next {w w' : World} {g : Nat} {l : List UInt8} (h : RowB w g l) (hb : Below w.heap.size w w') : RowB w' g l := h.below hb h.lt
set_option maxRecDepth 100000 in
theorem RowB.alloc {w : World} {g : Nat} {l : List UInt8} (h : RowB w g l) (o : Obj) : RowB (w.alloc o) g l := h.next ((Below.refl _ w).alloc (Nat.le_refl _) o)
set_option maxRecDepth 100000 in
/-- the bytes from k on, up to n of them -/
theorem RowB.rd {w : World} {g : Nat} {l : List UInt8} (h : RowB w g l) (k c : Nat) (m : List UInt8) (hm : m = l.drop k) (hc : m.length ≤ c) : RdB w w.heap.size (.slice (some ⟨g, k, none⟩) m.length c) m := by
  subst hm
  refine ⟨_, c, rfl, hc, fun i hi => ⟨g, k, rfl, h.lt, fun j u hu => ?_⟩⟩
  have hi' : k + i < l.length := by simp at hi; omega
  match j, hu with
  | 0, hu =>
    simp only [byteEnc, List.getElem?_cons_zero, Option.some.injEq] at hu
    subst hu
    simp only [Nat.mul_one, Nat.add_zero]
    rw [h.cell (k + i) hi']
    simp
  | j + 1, hu => simp [byteEnc] at hu
set_option maxRecDepth 100000 in
theorem RowB.whole {w : World} {g : Nat} {l : List UInt8} (h : RowB w g l) : RdB w w.heap.size (.slice (some ⟨g, 0, none⟩) l.length l.length) l := h.rd 0 l.length l (by simp) (Nat.le_refl _)
set_option maxRecDepth 100000 in
theorem RowB.own {w : World} {g base : Nat} {l : List UInt8} (h : RowB w g l) (hb : base ≤ g) (hm : l.length ≤ maxLen) : Own byteEnc 1 5 w base (.slice (some ⟨g, 0, none⟩) l.length l.length) l := by
  refine ⟨by rw [flat_cellsB, cellsB_len]; omega, .inr ⟨g, l.length, _, rfl, hb, h, Nat.le_refl _, hm, by simp [cellsB_len], ?_⟩⟩
  rw [flat_cellsB]
  exact List.take_of_length_le (by simp [cellsB_len])

section
variable {ops : Array Oper} {rest : List Oper} {o : Oper} {a : Act} {Q : Exit → Act → World → Prop} {w : World}
set_option maxRecDepth 100000 in
/-- a new row of zeros -/
theorem wpList_makeB (hg : o.guard = none) (l c : Operand) (hop : o.op = Op.makeSlice 63 l c) (n : Nat) (hl : a.eval l = .int .i64 (n : Int)) (hc : a.eval c = .int .i64 (n : Int)) (hn : n ≤ 281474976710656)
    (hK : ∀ w', RowB w' w.heap.size (List.replicate n 0) → Below w.heap.size w w' → wpList Try.prog ops Q rest (a.put o.dst (.slice (some ⟨w.heap.size, 0, none⟩) n n)) w') : wpList Try.prog ops Q (o :: rest) a w := by
  obtain ⟨i, hi, hz0, hz1, hz2⟩ := info_parts info_u8
  refine wpList_make_row w hg l c 63 hop 5 i _ Try.underlying63 hi hz0 hz1 rfl .i64 .i64 n hl hc (by rw [hz2]; omega) (by omega) (hK _ ?_ ((Below.refl _ w).alloc (Nat.le_refl _) _))
  unfold RowB
  have e : madeCells #[Value.int .u8 0] n = (cellsB (List.replicate n 0)).toArray := by
    apply Array.toList_inj.1
    rw [toList_madeCells_one]
    simp [cellsB]
  rw [e]
  exact heap_alloc_new w _

set_option maxRecDepth 100000 in
/-- bytes copied into a row of the call's own, from off on: as many as there are -/
theorem wpList_copyB (hgd : o.guard = none) (d s : Operand) (ho : o.op = .call { callee := .builtin .copy, args := #[d, s], argTypes := #[63, 63] }) (g off : Nat) (dp : Option Addr) (dCap : Nat) (cur l : List UInt8) (v : Value) (B : Nat)
    (hd : a.eval d = .slice dp l.length dCap) (hdp : 0 < l.length → dp = some ⟨g, off, none⟩) (hs : a.eval s = v) (hv : RdB w B v l) (hg : RowB w g cur) (hfit : off + l.length ≤ cur.length) (C : Nat) (w0 : World) (hb : Below C w0 w) (hC : C ≤ g)
    (h : ∀ w', Hid (RowB w' g (cur.take off ++ (l ++ cur.drop (off + l.length)))) → Below C w0 w' → wpList Try.prog ops Q rest (a.put o.dst (goInt l.length)) w') : wpList Try.prog ops Q (o :: rest) a w := by
  obtain ⟨i, hi, hz0, hz1, hz2⟩ := info_parts info_u8
  obtain ⟨A, c, rfl, hc, hcell⟩ := hv.at
  have hlen := cellsB_len l
  refine wpList_copy_splice hgd d s _ _ ho 5 Try.underlying63 (by rw [hi]; simp [hz1]) dp A l.length dCap l.length c hd hs g off (cellsB cur) 5 hg (cellsB l) (by rw [hlen]; exact (Nat.min_self _).symm) ?_ (by rw [hlen, cellsB_len]; exact hfit) (cellsB_one l) C w0 hb hC ?_
  · rw [hlen]
    intro hpos
    obtain ⟨b, o', hA, hbB, _⟩ := hcell 0 hpos
    refine ⟨hdp hpos, ⟨b, o', none⟩, hA, fun j u hu => ?_⟩
    have hj : j < l.length := by
      rcases Nat.lt_or_ge j l.length with h' | h'
      · exact h'
      · rw [List.getElem?_eq_none (by rw [cellsB_len]; exact h')] at hu; cases hu
    obtain ⟨b2, o2, hA2, _, h2⟩ := hcell j hj
    rw [hA] at hA2
    simp only [Option.some.injEq, Addr.mk.injEq, and_true] at hA2
    obtain ⟨rfl, rfl⟩ := hA2
    rw [cellsB_get l j hj] at hu
    simp only [Option.some.injEq] at hu
    subst hu
    have hadd : (⟨b, o', none⟩ : Addr).add j = ⟨b, o' + j, none⟩ := by unfold Addr.add; split <;> simp_all
    rw [hadd]
    exact h2
  · intro w' hg' hb'
    rw [hlen]
    refine h w' (Lib.hid ?_) hb'
    have := hg'.out
    unfold RowB
    rw [this]
    congr 3
    rw [splice, hlen]
    simp [cellsB, List.map_take, List.map_drop]
end

abbrev OwnB (w : World) (base : Nat) (v : Value) (l : List UInt8) : Prop := Own byteEnc 1 5 w base v l
set_option maxRecDepth 100000 in
theorem OwnB.rdB {w : World} {base : Nat} {v : Value} {l : List UInt8} (h : OwnB w base v l) : RdB w w.heap.size v l := Own.rd byteEnc_len h
set_option maxRecDepth 100000 in
/-- a literal of one byte -/
theorem RdB.one (w : World) (c : UInt8) : RdB (w.alloc (.cells #[.int .u8 (c.toNat : Int)] 5)) (w.heap.size + 1) (.slice (some ⟨w.heap.size, 0, none⟩) 1 1) [c] := by
  refine ⟨_, 1, rfl, Nat.le_refl _, fun i hi => ⟨w.heap.size, 0, rfl, Nat.lt_succ_self _, fun j u hu => ?_⟩⟩
  obtain rfl : i = 0 := by simp at hi; omega
  match j, hu with
  | 0, hu =>
    simp only [byteEnc, List.getElem_cons_zero, List.getElem?_cons_zero, Option.some.injEq] at hu
    subst hu
    exact World.cell?_alloc_at _ _ _ _ rfl
  | j + 1, hu => simp [byteEnc] at hu
set_option maxRecDepth 100000 in
theorem wpList_addB {ops : Array Oper} {rest : List Oper} {o : Oper} {a : Act} {Q : Exit → Act → World → Prop} {w : World} (hgd : o.guard = none) (s x : Operand)
    (ho : o.op = .call { callee := .builtin .append, args := #[s, x], argTypes := #[63, 63] })
    (base : Nat) (v : Value) (l : List UInt8) (hs : a.eval s = v) (hown : OwnB w base v l) (B : Nat) (v2 : Value) (p : List UInt8) (hx : a.eval x = v2) (hp : RdB w B v2 p)
    (hlen : l.length + p.length ≤ 225179981368000) (hbase : base ≤ w.heap.size) (C : Nat) (w0 : World) (hb : Below C w0 w) (hC : C ≤ base)
    (h : ∀ A' c' w', Hid (OwnB w' base (.slice A' (l ++ p).length c') (l ++ p)) → Hid (Below C w0 w') → Hid (base ≤ w'.heap.size) → wpList Try.prog ops Q rest (a.put o.dst (.slice A' (l ++ p).length c')) w') : wpList Try.prog ops Q (o :: rest) a w := by
  obtain ⟨i0, hi, hz0, hz1, hz2⟩ := info_parts info_u8
  refine wpList_addAny (enc := byteEnc) (k := 1) 63 5 1 i0 _ Try.underlying63 hi hz0 hz1 hz2 rfl (by decide) byteEnc_len byteEnc_one hgd s x ho base v l hs hown B v2 p hx hp (by unfold maxLen; omega) (by omega) hbase fun A' c' w' h1 h2 => ?_
  exact h A' c' w' (Lib.hid h1) (Lib.hid (hown.grown hb h2 hC (Nat.le_trans hC hbase))) (Lib.hid (Nat.le_trans hbase h2.size))

set_option maxRecDepth 100000 in
/-- the same for an operation of a region that draws -/
theorem wp_addB {o : Oper} {a : Act} {K : Act → World → Prop} {Q : Exit → Act → World → Prop} {w : World} (s x : Operand)
    (ho : o.op = .call { callee := .builtin .append, args := #[s, x], argTypes := #[63, 63] })
    (base : Nat) (v : Value) (l : List UInt8) (hs : a.eval s = v) (hown : OwnB w base v l) (B : Nat) (v2 : Value) (p : List UInt8) (hx : a.eval x = v2) (hp : RdB w B v2 p)
    (hlen : l.length + p.length ≤ 225179981368000) (hbase : base ≤ w.heap.size) (C : Nat) (w0 : World) (hb : Below C w0 w) (hC : C ≤ base)
    (h : ∀ A' c' w', OwnB w' base (.slice A' (l ++ p).length c') (l ++ p) → Below C w0 w' → base ≤ w'.heap.size → K (a.put o.dst (.slice A' (l ++ p).length c')) w') : o.wp Try.prog a w K Q := by
  obtain ⟨i0, hi, hz0, hz1, hz2⟩ := info_parts info_u8
  refine wp_addAny (enc := byteEnc) (k := 1) 63 5 1 i0 _ Try.underlying63 hi hz0 hz1 hz2 rfl (by decide) byteEnc_len byteEnc_one s x ho base v l hs hown B v2 p hx hp (by unfold maxLen; omega) (by omega) hbase fun A' c' w' h1 h2 => ?_
  exact h A' c' w' h1 (hown.grown hb h2 hC (Nat.le_trans hC hbase)) (Nat.le_trans hbase h2.size)

set_option maxRecDepth 100000 in
/-- the same where the operation has a guard that says yes -/
theorem wpList_addW {ops : Array Oper} {rest : List Oper} {o : Oper} {a : Act} {Q : Exit → Act → World → Prop} {w : World} (hgd : Region.wanted o (yielded ops a.tmps) = true) (s x : Operand)
    (ho : o.op = .call { callee := .builtin .append, args := #[s, x], argTypes := #[63, 63] })
    (base : Nat) (v : Value) (l : List UInt8) (hs : a.eval s = v) (hown : OwnB w base v l) (B : Nat) (v2 : Value) (p : List UInt8) (hx : a.eval x = v2) (hp : RdB w B v2 p)
    (hlen : l.length + p.length ≤ 225179981368000) (hbase : base ≤ w.heap.size) (C : Nat) (w0 : World) (hb : Below C w0 w) (hC : C ≤ base)
    (h : ∀ A' c' w', Hid (OwnB w' base (.slice A' (l ++ p).length c') (l ++ p)) → Hid (Below C w0 w') → Hid (base ≤ w'.heap.size) → wpList Try.prog ops Q rest (a.put o.dst (.slice A' (l ++ p).length c')) w') : wpList Try.prog ops Q (o :: rest) a w := by
  obtain ⟨i0, hi, hz0, hz1, hz2⟩ := info_parts info_u8
  refine BigFrame.wpList_want hgd fun K hK => ?_
  refine wp_addAny (enc := byteEnc) (k := 1) 63 5 1 i0 _ Try.underlying63 hi hz0 hz1 hz2 rfl (by decide) byteEnc_len byteEnc_one s x ho base v l hs hown B v2 p hx hp (by unfold maxLen; omega) (by omega) hbase fun A' c' w' h1 h2 => ?_
  exact hK _ _ (h A' c' w' (Lib.hid h1) (Lib.hid (hown.grown hb h2 hC (Nat.le_trans hC hbase))) (Lib.hid (Nat.le_trans hbase h2.size)))

/-- a text out of bytes -/
def strB (l : List UInt8) : ByteArray := ⟨l.toArray⟩
set_option maxRecDepth 100000 in
theorem strB_inj {a b : List UInt8} (h : strB a = strB b) : a = b := by
  simpa [strB] using h
set_option maxRecDepth 100000 in
theorem run_convB {w : World} {B : Nat} {v : Value} {l : List UInt8} (hv : RdB w B v l) : (convert 63 9 v).run Try.prog w = .ok (.string (strB l)) w := by
  obtain ⟨A, c, rfl, hc, hcell⟩ := hv.at
  rw [run_convert_bytes_string w 63 9 5 _ _ _ Try.underlying63 Try.underlying5 Try.underlying9]
  cases A with
  | none =>
    have : l = [] := by
      cases l with
      | nil => rfl
      | cons x r => obtain ⟨b, o, hA, _⟩ := hcell 0 (by simp); cases hA
    subst this
    simp [Conv.bytesToString, strB, ByteArray.empty, ByteArray.emptyWithCapacity]
    rfl
  | some ad =>
    have hl := run_loadCells_list (P := Try.prog) w ad ((l.map fun c => (c.toNat : Int)).map (Value.int .u8)) (fun j u hj => by
      have hjl : j < l.length := by
        rcases Nat.lt_or_ge j l.length with h | h
        · exact h
        · simp [List.getElem?_eq_none (show l.length ≤ j from h)] at hj
      obtain ⟨b, o, hA, _, h1⟩ := hcell j hjl
      simp only [Option.some.injEq] at hA
      subst hA
      have hadd : (⟨b, o, none⟩ : Addr).add j = ⟨b, o + j, none⟩ := by unfold Addr.add; split <;> simp_all
      rw [hadd, h1]
      simp [hjl] at hj
      simp [hj])
    rw [run_bytesToString w ad l.length c (l.map fun c => (c.toNat : Int)) (by simpa using hl), foldl_push_bytes]
    have e : (l.map fun c => (c.toNat : Int)).map (fun n => UInt8.ofNat n.toNat) = l := by
      rw [List.map_map]
      conv => rhs; rw [← List.map_id l]
      exact List.map_congr_left fun x _ => by simp
    rw [e]
    simp [strB, ByteArray.empty, ByteArray.emptyWithCapacity]
    rfl
set_option maxRecDepth 100000 in
theorem same_str (a b : List UInt8) : ((strB a).toList == (strB b).toList) = decide (a = b) := by
  rw [Lib.toList_data, Lib.toList_data]
  rw [Bool.eq_iff_iff]
  simp [strB]

set_option maxRecDepth 100000 in
theorem RdB.lit (w : World) (l : List UInt8) (fr : Nat × Nat) : RdB (w.alloc (.cells (cellsB l).toArray 5 fr)) (w.heap.size + 1) (.slice (some ⟨w.heap.size, 0, none⟩) l.length l.length) l := by
  refine ⟨_, l.length, rfl, Nat.le_refl _, fun i hi => ⟨w.heap.size, 0, rfl, Nat.lt_succ_self _, fun j u hu => ?_⟩⟩
  match j, hu with
  | 0, hu =>
    simp only [byteEnc, List.getElem?_cons_zero, Option.some.injEq] at hu
    subst hu
    rw [World.cell?_alloc_mark, Nat.zero_add, Nat.mul_one, Nat.add_zero, List.getElem?_toArray]
    exact cellsB_get l i hi
  | j + 1, hu => simp [byteEnc] at hu

end Go.Proofs.Ytmakgjokadcfjaa
