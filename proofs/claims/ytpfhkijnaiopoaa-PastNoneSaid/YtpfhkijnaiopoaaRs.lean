/- The reference's Past: Get, List. -/
import Derived.Test.YtpfhkijnaiopoaaRr
namespace Go.Proofs.Ytpfhkijnaiopoaa
open Go.RowKit
attribute [local go_sem] less_eq same_eq le_eq ge_eq gt_eq

theorem find_none {α : Type} (q : α → Bool) (l : List α) (h : ∀ j (hj : j < l.length), q l[j] = false) : l.find? q = none := by
  rw [List.find?_eq_none]
  intro x hx
  obtain ⟨j, hj, rfl⟩ := List.getElem_of_mem hx
  simp [h j hj]
theorem find_at {α : Type} (q : α → Bool) (l : List α) (i : Nat) (hi : i < l.length) (h : ∀ j (hj : j < l.length), j < i → q l[j] = false) (hq : q l[i] = true) : l.find? q = some l[i] := by
  have e : l = l.take i ++ l[i] :: l.drop (i + 1) := by rw [← List.drop_eq_getElem_cons hi, List.take_append_drop]
  have h1 : (l.take i).find? q = none := find_none q (l.take i) (fun j hj => by
    have hj2 : j < l.length := by rw [List.length_take] at hj; omega
    have hji : j < i := by rw [List.length_take] at hj; omega
    rw [List.getElem_take]; exact h j hj2 hji)
  have h2 : (l.take i ++ l[i] :: l.drop (i + 1)).find? q = some l[i] := by
    rw [List.find?_append, h1, List.find?_cons, hq]
    rfl
  exact (congrArg (List.find? q) e).trans h2

set_option maxHeartbeats 8000000 in
set_option maxRecDepth 100000 in
theorem rget_any (base r : Nat) (ov : Option Nat) (E : Nat → Prop) (p : Pa) (k : K) (v : Int) (w : World) (h : RpAt w base r ov E p) (hbd : (p.at_ v).length ≤ 7100000000000) :
    Calls Try.prog 17 #[.pointer (some ⟨r, 0, none⟩), .string k, .int .i64 v] w fun e w' => e = .returned (.tuple #[.string (p.get k v).1.1, .bool (p.get k v).1.2, .int .i64 (p.get k v).2]) ∧ Below w.heap.size w w' := by
  obtain ⟨⟨⟨RS, RB⟩, RE⟩, hR⟩ : ∃ R, R = p.get k v := ⟨_, rfl⟩
  rw [← hR]
  unfold Pa.get at hR
  simp only
  have HKN := Lib.hid (rknown_any base r ov E p v w h)
  have HAT := Lib.hid (rat_any base r ov E p v w h)
  clear h
  obtain ⟨kn, hkn⟩ : ∃ kn, kn = p.known v := ⟨_, rfl⟩
  rw [← hkn] at hR HKN
  by_cases hk : kn = 0
  · rw [if_neg (by simpa using hk)] at hR
    subst hk
    obtain ⟨L, hL⟩ : ∃ L, L = p.at_ v := ⟨_, rfl⟩
    rw [← hL] at hR HAT hbd
    have HR := Lib.hid hR
    clear hR hkn hL
    go_enter Try.func17, Try.ntmps17
    go_wp2_with fail
    refine HKN.out.mono ?_
    rintro e w1 ⟨rfl, hw1⟩
    subst hw1
    go_wp2_with fail
    refine HAT.out.mono ?_
    rintro e w2 ⟨A2, k2, rfl, hr2, hb2⟩
    obtain ⟨A3, c3, e, hc3, hcell⟩ := RdP.at hr2.rd
    injection e with e1 _ e3
    subst e1 e3
    have HB2 := Lib.hid hb2
    have HCELL := Lib.hid hcell
    clear hr2 hb2 hcell HAT HKN
    go_wp2_with fail
    go_loopw [11] (fun iv wr => ∃ i : Nat, i ≤ L.length ∧ iv = .int .i64 (i : Int) ∧ wr = w2 ∧ ∀ j (hj : j < L.length), j < i → decide (L[j].1 = k) = false) (fun iv _ => L.length - (intOf iv).toNat)
    case atStart => exact ⟨0, Nat.zero_le _, rfl, rfl, fun j _ h => by omega⟩
    case round =>
      obtain ⟨i, hi, rfl, hwr, hall⟩ := hrel
      subst hwr
      have HALL := Lib.hid hall
      clear hall
      have h0 : (0 : Int) ≤ (i : Int) := by omega
      by_cases hil : i < L.length
      · have h1 : (i : Int) < (L.length : Int) := by omega
        have h2 : IntKind.i64.wrap ((i : Int) + 1) = ((i + 1 : Nat) : Int) := by rw [IntKind.wrap_i64]; omega
        obtain ⟨g, o, rfl, hg, q0, q1⟩ := HCELL.out i hil
        by_cases hx : L[i].1 = k
        · have hf := find_at (fun x : K × K => decide (x.1 = k)) L i hil HALL.out (decide_eq_true hx)
          have hr := HR.out
          unfold valOf at hr
          rw [hf] at hr
          simp only [Prod.mk.injEq] at hr
          obtain ⟨⟨r1, r2⟩, r3⟩ := hr
          have HX := Lib.hid (show RS = L[i].2 ∧ RB = true ∧ RE = 0 from ⟨r1, r2, r3⟩)
          clear hf r1 r2 r3
          generalize L[i] = x at q0 q1 hx HX
          obtain ⟨xk, xv⟩ := x
          simp only at q0 q1 hx HX
          subst hx
          go_wp2_with fail
          obtain ⟨rfl, rfl, rfl⟩ := HX.out
          exact bodyPost_ret (v := .tuple #[.string RS, .bool true, .int .i64 0]) (by simp [results, Try.results17, go_sem]) rfl ⟨rfl, HB2.out⟩
        · have hall2 : ∀ j (hj : j < L.length), j < i + 1 → decide (L[j].1 = k) = false := fun j hj hji => by
            rcases Nat.lt_or_ge j i with h' | h'
            · exact HALL.out j hj h'
            · obtain rfl : j = i := by omega
              exact decide_eq_false hx
          have HALL2 := Lib.hid hall2
          clear hall2
          generalize L[i] = x at q0 q1 hx
          go_wp2_with fail
          go_roundw
          case rel => exact ⟨i + 1, by omega, by go_num, by first | trivial | rfl, HALL2.out⟩
          case measure => simp [intOf]; omega
      · have h1 : ¬ (i : Int) < (L.length : Int) := by omega
        have hf := find_none (fun x : K × K => decide (x.1 = k)) L (fun j hj => HALL.out j hj (by omega))
        have hr := HR.out
        unfold valOf at hr
        rw [hf] at hr
        simp only [Prod.mk.injEq] at hr
        have HX := Lib.hid (show RS = ⟨#[]⟩ ∧ RB = false ∧ RE = 0 from ⟨hr.1.1, hr.1.2, hr.2⟩)
        clear hf hr
        go_wp2_with fail
        obtain ⟨rfl, rfl, rfl⟩ := HX.out
        exact bodyPost_ret (v := .tuple #[.string ⟨#[]⟩, .bool false, .int .i64 0]) (by simp [results, Try.results17, go_sem]) rfl ⟨rfl, HB2.out⟩
  · rw [if_pos (by simpa using hk)] at hR
    simp only [Prod.mk.injEq] at hR
    have HX := Lib.hid (show RS = ⟨#[]⟩ ∧ RB = false ∧ RE = kn from ⟨hR.1.1, hR.1.2, hR.2⟩)
    clear hR hkn
    go_enter Try.func17, Try.ntmps17
    go_wp2_with fail
    refine HKN.out.mono ?_
    rintro e w1 ⟨rfl, hw1⟩
    subst hw1
    go_wp2_with fail
    obtain ⟨rfl, rfl, rfl⟩ := HX.out
    exact bodyPost_ret (v := .tuple #[.string ⟨#[]⟩, .bool false, .int .i64 RE]) (by simp [results, Try.results17, go_sem]) rfl ⟨rfl, Below.refl _ _⟩

theorem list_take {α : Type} (q : α → Bool) (l : List α) (m i : Nat) (h : i < l.length) : ((l.take (i + 1)).filter q).take m = if q l[i] = true ∧ (((l.take i).filter q).take m).length < m then ((l.take i).filter q).take m ++ [l[i]] else ((l.take i).filter q).take m := by
  rw [filter_take q l i h]
  cases hq : q l[i]
  · simp
  · simp only [if_true, true_and, List.length_take]
    rw [List.take_append]
    by_cases hm : ((l.take i).filter q).length < m
    · rw [if_pos (by omega), List.take_of_length_le (show [l[i]].length ≤ m - ((l.take i).filter q).length by simp; omega)]
    · rw [if_neg (by omega), show m - ((l.take i).filter q).length = 0 by omega, List.take_zero, List.append_nil]

set_option maxHeartbeats 8000000 in
set_option maxRecDepth 100000 in
theorem rlist_any (base r : Nat) (ov : Option Nat) (E : Nat → Prop) (p : Pa) (s : K × K) (v most : Int) (w : World) (h : RpAt w base r ov E p) (hbd : (p.at_ v).length ≤ 4000000000000) (hmo : most ≤ 9223372036854775807) :
    Calls Try.prog 19 #[.pointer (some ⟨r, 0, none⟩), spv s, .int .i64 v, .int .i64 most] w fun e w' => ∃ A c, e = .returned (.tuple #[.slice A (p.list s v most).1.length c, .int .i64 (p.list s v most).2]) ∧ OwnP w' w.heap.size (.slice A (p.list s v most).1.length c) (p.list s v most).1 ∧ Below w.heap.size w w' := by
  obtain ⟨⟨RL, RE⟩, hR⟩ : ∃ R, R = p.list s v most := ⟨_, rfl⟩
  rw [← hR]
  unfold Pa.list at hR
  simp only
  obtain ⟨s1, s2⟩ := s
  unfold spv
  simp only
  have hbx : Below w.heap.size w (w.alloc (.cells #[.string s1, .string s2] 33)) := (Below.refl _ w).alloc (Nat.le_refl _) _
  have hWx : Whole (w.alloc (.cells #[.string s1, .string s2] 33)) w.heap.size 33 [.string s1, .string s2] := Whole.fresh w _ [_, _]
  obtain ⟨wx, hwx⟩ : ∃ wx, wx = w.alloc (.cells #[.string s1, .string s2] 33) := ⟨_, rfl⟩
  rw [← hwx] at hbx hWx
  have HX := Lib.hid hwx
  have hx := h.new hbx
  have HKN := Lib.hid (rknown_any base r ov E p v wx hx)
  have HAT := Lib.hid (rat_any base r ov E p v wx hx)
  have HBX := Lib.hid hbx
  have HWX := Lib.hid hWx
  clear h hx hbx hWx hwx
  obtain ⟨kn, hkn⟩ : ∃ kn, kn = p.known v := ⟨_, rfl⟩
  rw [← hkn] at hR HKN
  by_cases hk : kn = 0
  · rw [if_neg (by simpa using hk)] at hR
    subst hk
    by_cases hm : most < 0
    · rw [if_pos hm] at hR
      obtain ⟨rfl, rfl⟩ : RL = [] ∧ RE = 1 := by simpa using hR
      clear hR hkn
      go_enter Try.func19, Try.ntmps19
      go_wp2_with fail
      rw [← HX.out]
      refine HKN.out.mono ?_
      rintro e w1 ⟨rfl, hw1⟩
      subst hw1
      go_wp2_with fail
      exact bodyPost_ret (v := .tuple #[.slice none 0 0, .int .i64 1]) (by simp [results, Try.results19, go_sem]) rfl ⟨none, 0, rfl, Own.nil _ _, HBX.out⟩
    · rw [if_neg hm] at hR
      obtain ⟨m, rfl⟩ : ∃ m : Nat, most = (m : Int) := ⟨most.toNat, by omega⟩
      rw [Int.toNat_natCast] at hR
      obtain ⟨L, hL⟩ : ∃ L, L = p.at_ v := ⟨_, rfl⟩
      rw [← hL] at hR HAT hbd
      have HR := Lib.hid (show RL = (L.filter (fun x => hasB (s1, s2) x.1)).take m ∧ RE = 0 by simpa using hR)
      clear hR hkn hL
      go_enter Try.func19, Try.ntmps19
      go_wp2_with fail
      rw [← HX.out]
      refine HKN.out.mono ?_
      rintro e w1 ⟨rfl, hw1⟩
      subst hw1
      go_wp2_with fail
      refine HAT.out.mono ?_
      rintro e w2 ⟨A2, k2, rfl, hr2, hb2⟩
      have HB2 := Lib.hid (HBX.out.trans (hb2.mono HBX.out.size))
      have hW2 := HWX.out.below hb2 HWX.out.size
      have hb3 : Below w2.heap.size w2 (w2.alloc (.cells #[] 56)) := (Below.refl _ w2).alloc (Nat.le_refl _) _
      have HEM := Lib.hid (Own.empty (enc := cellsS) (k := 2) (e := 56) w2 w2.heap.size (Nat.le_refl _))
      have HB3 := Lib.hid hb3
      have HW2 := Lib.hid hW2
      have HRD := Lib.hid hr2.rd
      have hws : w.heap.size < w2.heap.size := hW2.size
      clear hr2 hb2 hW2 hb3 HAT HKN HBX HWX
      go_wp2_with fail
      generalize w2.alloc (.cells #[] 56) = w3 at HEM HB3 ⊢
      go_loopw [12, 13] (fun pv iv wr => ∃ (i : Nat) (A' : Option Addr) (c' : Nat), i ≤ L.length ∧ iv = .int .i64 (i : Int) ∧ pv = .slice A' (((L.take i).filter (fun x => hasB (s1, s2) x.1)).take m).length c' ∧ OwnP wr w2.heap.size (.slice A' (((L.take i).filter (fun x => hasB (s1, s2) x.1)).take m).length c') (((L.take i).filter (fun x => hasB (s1, s2) x.1)).take m) ∧ Below w2.heap.size w2 wr) (fun _ iv _ => L.length - (intOf iv).toNat)
      case atStart => exact ⟨0, some ⟨w2.heap.size, 0, none⟩, 0, Nat.zero_le _, rfl, by simp, by simpa using HEM.out, HB3.out⟩
      case round =>
        obtain ⟨i, A', c', hi, rfl, rfl, ho, hbw⟩ := hrel
        have HO := Lib.hid ho
        have HBW := Lib.hid hbw
        have hz := hbw.size
        have h0 : (0 : Int) ≤ (i : Int) := by omega
        clear ho hbw HEM HB3
        by_cases hil : i < L.length
        · have h1 : (i : Int) < (L.length : Int) := by omega
          have h2 : IntKind.i64.wrap ((i : Int) + 1) = ((i + 1 : Nat) : Int) := by rw [IntKind.wrap_i64]; omega
          obtain ⟨A3, c3, e, hc3, hcell⟩ := RdP.at HRD.out
          injection e with e1 _ e3
          subst e1 e3
          obtain ⟨g, o, rfl, hg, q0, q1⟩ := hcell i hil
          have HT := Lib.hid (list_take (fun x : K × K => hasB (s1, s2) x.1) L m i hil)
          have hlt : (((L.take i).filter (fun x => hasB (s1, s2) x.1)).take m).length ≤ i := by
            have := List.length_filter_le (fun x : K × K => hasB (s1, s2) x.1) (L.take i)
            rw [List.length_take] at this ⊢
            omega
          generalize ((L.take i).filter (fun x => hasB (s1, s2) x.1)).take m = O at HO HT hlt ⊢
          generalize L[i] = x at q0 q1 HT
          obtain ⟨xk, xv⟩ := x
          simp only at q0 q1 HT
          have HLT := Lib.hid hlt
          have HCELL := Lib.hid (show ∀ W, Below wr.drew.heap.size wr.drew W → W.cell? ⟨w.heap.size, 0, none⟩ = some (.string s1) ∧ W.cell? ⟨w.heap.size, 1, none⟩ = some (.string s2) ∧ W.cell? ⟨g, o + i * 2, none⟩ = some (.string xk) from fun W hW => by
            have hW2 : Below w2.heap.size w2 W := HBW.out.drew.trans (hW.mono hz)
            have hs := HW2.out.below hW2 HW2.out.size
            exact ⟨hs.cell 0 _ rfl, hs.cell 1 _ rfl, (hW2.cell (p := ⟨g, _, none⟩) hg).trans q0⟩)
          have HHAS := Lib.hid (rhas_any (s1, s2) xk wr.drew)
          have HQ0 := Lib.hid q0
          have HQ1 := Lib.hid q1
          have HGS := Lib.hid hg
          clear hlt hcell q0 q1 hg
          go_wp2_with fail
          refine wp_region_planB [(true, 0), (true, 1), (true, 2), (true, 3), (true, 4), (true, 5), (false, 6), (true, 7), (true, 8), (true, 9), (true, 10), (true, 11), (true, 12)] (by kernel_rfl) (by kernel_rfl) (fun _ _ d _ _ h => by cases d <;> exact h) ?_
          repeat (refine PlanB.take (v := ?_) rfl rfl ?_ ?_; rotate_left; (focus (intro W hW; obtain ⟨k1, k2, k3⟩ := HCELL.out W hW; go_simp; (try with_reducible rfl); done)); (try simp only [Act.put, List.setIfInBounds_toArray, List.set_cons_zero, List.set_cons_succ]))
          refine PlanB.step rfl rfl (fun Kk hKk => ?_)
          go_simp
          go_at_call 28
          refine HHAS.out.mono ?_
          rintro e w4 ⟨rfl, hb4⟩
          have HB4 := Lib.hid hb4
          have hb5 : Below wr.heap.size wr w4 := ((Below.refl _ wr).drew).trans hb4
          have HO4 := Lib.hid (HO.out.below hb5 (Nat.le_refl _))
          have HBW4 := Lib.hid (HBW.out.trans (hb5.mono hz))
          have hz4 : w2.heap.size ≤ w4.heap.size := Nat.le_trans hz hb5.size
          have hh : (decide (s1 ≤ xk) && decide (xk < s2)) = hasB (s1, s2) xk := rfl
          refine hKk.out _ _ HB4.out ?_
          clear hKk Kk HB4 hb4 hb5 HHAS HCELL HO HBW hz
          simp only [hh]
          clear hh
          obtain ⟨bb, hbb⟩ : ∃ bb, bb = hasB (s1, s2) xk := ⟨_, rfl⟩
          rw [← hbb] at HT ⊢
          clear hbb
          (try simp only [Act.put, List.setIfInBounds_toArray, List.set_cons_zero, List.set_cons_succ])
          cases bb
          · have ht := HT.out
            rw [if_neg (by simp)] at ht
            have HT2 := Lib.hid ht
            clear ht HT
            repeat (first | (refine PlanB.take (v := ?_) rfl rfl ?_ ?_; rotate_left; (focus (intro W hW; skip; go_simp; (try with_reducible rfl); done)); (try simp only [Act.put, List.setIfInBounds_toArray, List.set_cons_zero, List.set_cons_succ])) | (refine PlanB.skip rfl rfl ?_; (try simp only [Act.put, List.setIfInBounds_toArray, List.set_cons_zero, List.set_cons_succ])))
            simp only [PlanB]
            go_wp2_with fail
            go_roundw
            case rel => exact ⟨i + 1, A', c', by omega, by go_num, by rw [HT2.out], by rw [HT2.out]; exact HO4.out, HBW4.out⟩
            case measure => simp [intOf]; omega
          · by_cases hol : O.length < m
            · have ht := HT.out
              rw [if_pos ⟨rfl, hol⟩] at ht
              have HT2 := Lib.hid ht
              have hol1 : (O.length : Int) < (m : Int) := by omega
              clear ht HT
              repeat (first | (refine PlanB.take (v := ?_) rfl rfl ?_ ?_; rotate_left; (focus (intro W hW; skip; go_simp; (try with_reducible rfl); done)); (try simp only [Act.put, List.setIfInBounds_toArray, List.set_cons_zero, List.set_cons_succ])) | (refine PlanB.skip rfl rfl ?_; (try simp only [Act.put, List.setIfInBounds_toArray, List.set_cons_zero, List.set_cons_succ])))
              simp only [PlanB]
              have q0 := (HBW4.out.cell (p := ⟨g, _, none⟩) HGS.out).trans HQ0.out
              have q1 := (HBW4.out.cell (p := ⟨g, _, none⟩) HGS.out).trans HQ1.out
              have HRX := Lib.hid (RdP.one w4 (xk, xv))
              simp only at HRX
              have HOA := Lib.hid (HO4.out.alloc (.cells #[.string xk, .string xv] 56))
              have HZA := Lib.hid (show w2.heap.size ≤ (w4.alloc (.cells #[.string xk, .string xv] 56)).heap.size by simp; omega)
              have HBA := Lib.hid (HBW4.out.alloc hz4 (.cells #[.string xk, .string xv] 56))
              go_wp2_with (at_builtin; refine wpList_addP rfl _ _ rfl w2.heap.size (.slice A' O.length c') O rfl HOA.out (w4.heap.size + 1) (.slice (some ⟨w4.heap.size, 0, none⟩) 1 1) [(xk, xv)] rfl HRX.out (by have := HLT.out; simp only [List.length_cons, List.length_nil]; omega) HZA.out w2.heap.size w2 HBA.out (Nat.le_refl _) ?_)
              intro A4 c4 w5 ho5 hb5 hz5
              have HO5 := ho5
              have HB5 := hb5
              clear ho5 hb5 hz5 q0 q1
              go_wp2_with fail
              go_roundw
              case rel => exact ⟨i + 1, A4, c4, by omega, by go_num, by rw [HT2.out]; simp, by rw [HT2.out]; simpa using HO5.out, HB5.out⟩
              case measure => simp [intOf]; omega
            · have ht := HT.out
              rw [if_neg (fun h => hol h.2)] at ht
              have HT2 := Lib.hid ht
              have hol1 : ¬ (O.length : Int) < (m : Int) := by omega
              have hol2 : decide ((O.length : Int) < (m : Int)) = false := decide_eq_false hol1
              have hol3 : decide (O.length < m) = false := decide_eq_false hol
              have HOL := Lib.hid (And.intro hol2 hol3)
              clear ht HT hol2 hol3
              repeat (first | (refine PlanB.take (v := ?_) rfl rfl ?_ ?_; rotate_left; (focus (intro W hW; obtain ⟨d1, d2⟩ := HOL.out; go_simp; (try with_reducible rfl); done)); (try simp only [Act.put, List.setIfInBounds_toArray, List.set_cons_zero, List.set_cons_succ])) | (refine PlanB.skip rfl rfl ?_; (try simp only [Act.put, List.setIfInBounds_toArray, List.set_cons_zero, List.set_cons_succ])))
              simp only [PlanB]
              go_wp2_with fail
              go_roundw
              case rel => exact ⟨i + 1, A', c', by omega, by go_num, by rw [HT2.out], by rw [HT2.out]; exact HO4.out, HBW4.out⟩
              case measure => simp [intOf]; omega
        · obtain rfl : i = L.length := by omega
          have ho := HO.out
          rw [List.take_length] at ho ⊢
          obtain ⟨r1, r2⟩ := HR.out
          have h1 : ¬ ((L.length : Int) < (L.length : Int)) := by omega
          rw [← r1] at ho ⊢
          have HO2 := Lib.hid ho
          have HR2 := Lib.hid r2
          clear ho HO r1 r2
          go_wp2_with fail
          refine bodyPost_ret (v := .tuple #[.slice A' RL.length c', .int .i64 0]) (by simp [results, Try.results19, go_sem]) rfl ⟨A', c', by rw [HR2.out], HO2.out.lower (Nat.le_of_lt hws), HB2.out.trans (HBW.out.mono HB2.out.size)⟩
  · rw [if_pos (by simpa using hk)] at hR
    obtain ⟨rfl, rfl⟩ : RL = [] ∧ RE = kn := by simpa using hR
    clear hR hkn
    go_enter Try.func19, Try.ntmps19
    go_wp2_with fail
    rw [← HX.out]
    refine HKN.out.mono ?_
    rintro e w1 ⟨rfl, hw1⟩
    subst hw1
    go_wp2_with fail
    exact bodyPost_ret (v := .tuple #[.slice none 0 0, .int .i64 RE]) (by simp [results, Try.results19, go_sem]) rfl ⟨none, 0, rfl, Own.nil _ _, HBX.out⟩
end Go.Proofs.Ytpfhkijnaiopoaa
