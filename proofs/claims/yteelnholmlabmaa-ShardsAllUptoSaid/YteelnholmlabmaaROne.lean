/- What the reference's One answers. -/
import Derived.Test.YteelnholmlabmaaRAll
namespace Go.Proofs.Yteelnholmlabmaa
open Go.RowKit
attribute [local go_sem] less_eq same_eq le_eq ge_eq gt_eq

theorem RdP.one (w : World) (s : K × K) : RdP (w.alloc (.cells #[.string s.1, .string s.2] 72)) (w.heap.size + 1) (.slice (some ⟨w.heap.size, 0, none⟩) 1 1) [s] := by
  refine ⟨_, 1, rfl, Nat.le_refl _, fun i hi => ⟨w.heap.size, 0, rfl, Nat.lt_succ_self _, fun j u hu => ?_⟩⟩
  obtain rfl : i = 0 := by simp at hi; omega
  match j, hu with
  | 0, hu =>
    simp only [cellsS, List.getElem_cons_zero, List.getElem?_cons_zero, Option.some.injEq] at hu
    subst hu
    exact World.cell?_alloc_at _ _ _ _ rfl
  | 1, hu =>
    simp only [cellsS, List.getElem_cons_zero, List.getElem?_cons_succ, List.getElem?_cons_zero, Option.some.injEq] at hu
    subst hu
    exact World.cell?_alloc_at _ _ _ _ rfl
  | j + 2, hu => simp [cellsS] at hu
theorem wpList_addP {ops : Array Oper} {rest : List Oper} {o : Oper} {a : Act} {Q : Exit → Act → World → Prop} {w : World} (hgd : Region.wanted o (yielded ops a.tmps) = true) (s x : Operand)
    (ho : o.op = .call { callee := .builtin .append, args := #[s, x], argTypes := #[52, 52] })
    (base : Nat) (v : Value) (l : List (K × K)) (hs : a.eval s = v) (hown : OwnP w base v l) (B : Nat) (v2 : Value) (p : List (K × K)) (hx : a.eval x = v2) (hp : RdP w B v2 p)
    (hlen : l.length + p.length ≤ 7036874417000) (hbase : base ≤ w.heap.size) (C : Nat) (w0 : World) (hb : Below C w0 w) (hC : C ≤ base)
    (h : ∀ A' c' w', Hid (OwnP w' base (.slice A' (l ++ p).length c') (l ++ p)) → Hid (Below C w0 w') → Hid (base ≤ w'.heap.size) → wpList Try.prog ops Q rest (a.put o.dst (.slice A' (l ++ p).length c')) w') : wpList Try.prog ops Q (o :: rest) a w := by
  obtain ⟨i0, hi, hz0, hz1, hz2⟩ := info_parts info_pair
  refine BigFrame.wpList_want hgd fun K hK => ?_
  refine wp_addAny (enc := cellsS) (k := 2) 52 72 32 i0 _ Try.underlying52 hi hz0 hz1 hz2 rfl (by decide) cellsS_len cellsS_one s x ho base v l hs hown B v2 p hx hp (by unfold maxLen; omega) (by omega) hbase fun A' c' w' h1 h2 => ?_
  exact hK _ _ (h A' c' w' (Lib.hid h1) (Lib.hid (hown.grown hb h2 hC (Nat.le_trans hC hbase))) (Lib.hid (Nat.le_trans hbase h2.size)))

/-- pairs behind a change: what is laid behind, if the change's own pair is laid already or not -/
def oneGo (c : Chg) : Bool → List (K × K) → List (K × K)
  | put, [] => if put then [] else [(c.key, c.val)]
  | put, p :: r => (if !put && decide (c.key ≤ p.1) then [(c.key, c.val)] else []) ++ ((if hasB (cspan c) p.1 then [] else [p]) ++ oneGo c (put || decide (c.key ≤ p.1)) r)
def oneP (l : List (K × K)) (c : Chg) : List (K × K) := oneGo c (!decide (c.kind = 1)) l

set_option maxHeartbeats 8000000 in
set_option maxRecDepth 100000 in
theorem rone_any (l : List (K × K)) (c : Chg) (hs : smallC c) (v : Value) (w : World) (hv : RdP w w.heap.size v l) (hl : l.length ≤ 7036874416000) :
    Calls Try.prog 37 #[v, cval c] w fun e w' => ∃ A' c', e = .returned (.slice A' (oneP l c).length c') ∧ OwnP w' w.heap.size (.slice A' (oneP l c).length c') (oneP l c) ∧ Below w.heap.size w w' := by
  obtain ⟨A, cc, rfl, hcc, hi⟩ := hv.at
  have hsp := fun W => rspan_any c W hs.1
  obtain ⟨R, hR⟩ : ∃ R, R = oneP l c := ⟨_, rfl⟩
  rw [← hR]
  unfold oneP at hR
  obtain ⟨k, x, y⟩ := c
  unfold cval at hsp ⊢
  obtain ⟨sp, hspd⟩ : ∃ sp, sp = cspan ⟨k, x, y⟩ := ⟨_, rfl⟩
  simp only [← hspd] at hsp
  unfold spv at hsp
  have HSPD := Lib.hid hspd; clear hspd
  have HR := Lib.hid hR; clear hR
  have HSP := Lib.hid hsp; clear hsp
  obtain ⟨w1, hw1⟩ : ∃ w1, w1 = w.alloc (.cells #[.int .i64 k, .string x, .string y] 67) := ⟨_, rfl⟩
  obtain ⟨g1, hg1⟩ : ∃ g1, g1 = w.heap.size + 1 := ⟨_, rfl⟩
  have hsz : w1.heap.size = g1 := by rw [hw1, hg1]; simp
  have hb01 : Below w.heap.size w w1 := by rw [hw1]; exact (Below.refl _ w).alloc (Nat.le_refl _) _
  have hbx : ∀ W, Below g1 w1 W → W.cell? ⟨w.heap.size, 0, none⟩ = some (.int .i64 k) ∧ W.cell? ⟨w.heap.size, 1, none⟩ = some (.string x) ∧ W.cell? ⟨w.heap.size, 2, none⟩ = some (.string y) := fun W hW => by
    have hlt : w.heap.size < g1 := by omega
    subst hw1
    exact ⟨(hW.cell (p := ⟨w.heap.size, 0, none⟩) hlt).trans (World.cell?_alloc_at _ _ _ _ rfl), (hW.cell (p := ⟨w.heap.size, 1, none⟩) hlt).trans (World.cell?_alloc_at _ _ _ _ rfl), (hW.cell (p := ⟨w.heap.size, 2, none⟩) hlt).trans (World.cell?_alloc_at _ _ _ _ rfl)⟩
  have hic : ∀ i (_ : i < l.length), ∃ b o, A = some ⟨b, o, none⟩ ∧ ∀ W, Below g1 w1 W → W.cell? ⟨b, o + i * 2, none⟩ = some (.string l[i].1) ∧ W.cell? ⟨b, o + i * 2 + 1, none⟩ = some (.string l[i].2) := fun i h => by
    obtain ⟨b, o, hA, hbB, k0, k1⟩ := hi i h
    refine ⟨b, o, hA, fun W hW => ⟨?_, ?_⟩⟩
    · exact (hW.cell (p := ⟨b, _, none⟩) (by show b < g1; omega)).trans ((hb01.cell (p := ⟨b, _, none⟩) hbB).trans k0)
    · exact (hW.cell (p := ⟨b, _, none⟩) (by show b < g1; omega)).trans ((hb01.cell (p := ⟨b, _, none⟩) hbB).trans k1)
  have HW1 := Lib.hid hw1
  have HBX := Lib.hid hbx
  have HIC := Lib.hid hic
  have HB01 := Lib.hid hb01
  have HSZ := Lib.hid hsz
  have HG := Lib.hid hg1
  clear hbx hic hb01 hsz hi hv hs hg1
  have hbx0 := HBX.out w1 (Below.refl _ _)
  rw [hw1] at hbx0
  obtain ⟨z0, _, _⟩ := hbx0
  clear hw1
  obtain ⟨put0, hput⟩ : ∃ put0, put0 = !decide (k = 1) := ⟨_, rfl⟩
  rw [← hput] at HR
  have hk1 : ((k == 1) : Bool) = !put0 := by rw [hput]; simp [Bool.beq_eq_decide_eq]
  go_enter Try.func37, Try.ntmps37
  go_wp2_with fail
  go_loopw [5, 6, 7] (fun ov pv iv wr => ∃ (i : Nat) (out : List (K × K)) (put : Bool) (A' : Option Addr) (c' : Nat), i ≤ l.length ∧ iv = .int .i64 i ∧ pv = .bool put ∧ ov = .slice A' out.length c' ∧ OwnP wr g1 (.slice A' out.length c') out ∧ Below g1 w1 wr ∧ g1 ≤ wr.heap.size ∧ out.length ≤ i + (if put then 1 else 0) ∧ R = out ++ oneGo ⟨k, x, y⟩ put (l.drop i)) (fun _ _ iv _ => l.length - (intOf iv).toNat)
  case atStart =>
    refine ⟨0, [], put0, some ⟨w.heap.size + 1, 0, none⟩, 0, Nat.zero_le _, rfl, by rw [hput]; simp [bne, Bool.beq_eq_decide_eq], rfl, ?_, ?_, ?_, by simp, by rw [HR.out]; rfl⟩
    · rw [← HW1.out]
      have := Own.empty (enc := cellsS) (k := 2) (e := 72) w1 g1 (by rw [HSZ.out]; exact Nat.le_refl _)
      rw [HSZ.out] at this
      rw [← HG.out]
      exact this
    · rw [← HW1.out]
      exact (Below.refl _ w1).alloc (by rw [HSZ.out]; exact Nat.le_refl _) _
    · rw [← HW1.out]
      simp
      rw [HSZ.out]; omega
  case round =>
    obtain ⟨i, out, put, A', c', hil, rfl, rfl, rfl, ho, hbw, hbs, hol, he⟩ := hrel
    have HBW := Lib.hid hbw; clear hbw
    have HBS := Lib.hid hbs
    have HO := Lib.hid ho; clear ho
    have HE := Lib.hid he; clear he
    by_cases hlt : i < l.length
    · obtain ⟨b, o, rfl, hcell⟩ := HIC.out i hlt
      have hd := HE.out
      rw [List.drop_eq_getElem_cons hlt, oneGo, ← HSPD.out] at hd
      generalize l[i] = p at hcell hd
      obtain ⟨p1, p2⟩ := p
      simp only at hd hcell
      have hhas := fun W => rhas_any sp p1 W
      have HC := Lib.hid hcell
      have HH := Lib.hid hhas
      clear hcell hhas
      have hi0 : (0 : Int) ≤ (i : Int) := by omega
      have hi1 : (i : Int) < (l.length : Int) := by omega
      cases put
      · by_cases hle : x ≤ p1
        · have hle2 : (!false && decide (x ≤ p1)) = true := by simp [hle]
          have hor : (false || decide (x ≤ p1)) = true := by simp [hle]
          rw [hle2, hor, if_pos rfl] at hd
          have HD := Lib.hid hd
          clear hd hle2 hor
          simp only [Bool.false_eq_true, if_false, Nat.add_zero] at hol
          go_wp2_with fail
          have hW0 : ∀ W, Below wr.drew.heap.size wr.drew W → Below g1 w1 W := fun W hW => HBW.out.drew.trans (hW.mono HBS.out)
          refine wp_region_planB [(true, 0), (true, 1), (true, 2), (true, 3), (true, 4), (true, 5), (true, 6), (true, 7), (true, 8), (true, 9), (true, 10), (true, 11)] (by kernel_rfl) (by kernel_rfl) (fun _ _ d _ _ h => by cases d <;> exact h) ?_
          repeat (first | (refine PlanB.take (v := ?_) rfl rfl ?_ ?_; rotate_left; (focus (intro W hW; obtain ⟨q0, q1, q2⟩ := HBX.out W (hW0 W hW); obtain ⟨k0, k1⟩ := HC.out W (hW0 W hW); go_simp; (try with_reducible rfl); done)); (try simp only [Act.put, List.setIfInBounds_toArray, List.set_cons_zero, List.set_cons_succ])) | (refine PlanB.skip rfl rfl ?_; (try simp only [Act.put, List.setIfInBounds_toArray, List.set_cons_zero, List.set_cons_succ])))
          simp only [PlanB]
          clear hW0
          obtain ⟨q0, q1, q2⟩ := HBX.out wr.drew HBW.out.drew
          go_wp2_with (at_builtin; go_must (refine wpList_addP rfl _ _ rfl g1 (.slice A' out.length c') out rfl ?fa1 (wr.heap.size + 1) _ [(x, y)] rfl (RdP.one wr.drew (x, y)) (by simp; omega) ?fa2 g1 w1 ?fa3 (Nat.le_refl _) ?fa4))
          case fa1 => exact (show OwnP wr.drew g1 _ _ from HO.out).alloc _
          case fa2 => have := HBS.out; simp; omega
          case fa3 => exact HBW.out.drew.alloc HBS.out _
          intro A2 c2 wc ho2 hb2 hz2
          have HBC := Lib.hid hb2.out
          have HZC := Lib.hid hz2.out
          have HOC := Lib.hid ho2.out
          clear q0 q1 q2 ho2 hb2 hz2
          cases hh : hasB sp p1
          · have hb1 : (decide (sp.1 ≤ p1) && decide (p1 < sp.2)) = false := hh
            have HQ := Lib.hid hh
            go_wp2_with fail
            have hW0 : ∀ W, Below wc.drew.heap.size wc.drew W → Below g1 w1 W := fun W hW => HBC.out.drew.trans (hW.mono HZC.out)
            refine wp_region_planB [(true, 0), (true, 2), (true, 3), (true, 4), (true, 5), (true, 6), (false, 1), (false, 7), (true, 8)] (by kernel_rfl) (by kernel_rfl) (fun _ _ d _ _ h => by cases d <;> exact h) ?_
            repeat (first | (refine PlanB.take (v := ?_) rfl rfl ?_ ?_; rotate_left; (focus (intro W hW; obtain ⟨q0, q1, q2⟩ := HBX.out W (hW0 W hW); obtain ⟨k0, k1⟩ := HC.out W (hW0 W hW); go_simp; (try with_reducible rfl); done)); (try simp only [Act.put, List.setIfInBounds_toArray, List.set_cons_zero, List.set_cons_succ])) | (refine PlanB.skip rfl rfl ?_; (try simp only [Act.put, List.setIfInBounds_toArray, List.set_cons_zero, List.set_cons_succ])))
            clear hW0
            refine PlanB.step rfl rfl (fun Kk hK => ?_)
            go_simp
            go_at_call 47
            refine (HSP.out _).mono ?_
            rintro e w4 ⟨rfl, hb4⟩
            refine hK.out _ _ hb4 ?_
            clear hK Kk
            have HB4 := Lib.hid (show Below g1 w1 w4 from HBC.out.drew.trans (hb4.mono HZC.out))
            have HZ4 := Lib.hid (show g1 ≤ w4.heap.size from Nat.le_trans HZC.out hb4.size)
            have HO4 := Lib.hid (HOC.out.below (((Below.refl _ wc).drew).trans hb4) (Nat.le_refl _))
            clear hb4
            (try simp only [Act.put, List.setIfInBounds_toArray, List.set_cons_zero, List.set_cons_succ])
            refine PlanB.step rfl rfl (fun Kk hK => ?_)
            go_simp
            go_at_call 22
            refine (HH.out _).mono ?_
            rw [hb1]
            rintro e w5 ⟨rfl, hb5⟩
            refine hK.out _ _ hb5 ?_
            clear hK Kk
            have HB5 := Lib.hid (show Below g1 w1 w5 from HB4.out.trans (hb5.mono HZ4.out))
            have HZ5 := Lib.hid (show g1 ≤ w5.heap.size from Nat.le_trans HZ4.out hb5.size)
            have HO5 := Lib.hid (HO4.out.below hb5 (Nat.le_refl _))
            clear hb5 HB4 HZ4 HO4
            (try simp only [Act.put, List.setIfInBounds_toArray, List.set_cons_zero, List.set_cons_succ])
            repeat (first | (refine PlanB.take (v := ?_) rfl rfl ?_ ?_; rotate_left; (focus (intro W hW; go_simp; (try with_reducible rfl); done)); (try simp only [Act.put, List.setIfInBounds_toArray, List.set_cons_zero, List.set_cons_succ])) | (refine PlanB.skip rfl rfl ?_; (try simp only [Act.put, List.setIfInBounds_toArray, List.set_cons_zero, List.set_cons_succ])))
            simp only [PlanB]
            obtain ⟨q0, q1, q2⟩ := HBX.out w5 HB5.out
            obtain ⟨k0, k1⟩ := HC.out w5 HB5.out
            go_wp2_with (at_builtin; go_must (refine wpList_addP rfl _ _ rfl g1 (.slice A2 (out.length + 1) c2) (out ++ [(x, y)]) rfl ?fb1 (w5.heap.size + 1) _ [(p1, p2)] rfl (RdP.one w5 (p1, p2)) (by simp; omega) ?fb2 g1 w1 ?fb3 (Nat.le_refl _) ?fb4))
            case fb1 => simpa using HO5.out.alloc _
            case fb2 => have := HZ5.out; simp; omega
            case fb3 => exact HB5.out.alloc HZ5.out _
            intro A6 c6 w6 ho6 hb6 hz6
            go_wp2_with fail
            go_roundw
            case rel => exact ⟨i + 1, out ++ [(x, y)] ++ [(p1, p2)], true, A6, c6, by omega, by go_num, rfl, by simp, by simpa using ho6.out, hb6.out, hz6.out, by simp; omega, by rw [HD.out, HQ.out]; simp⟩
            case measure => simp [intOf]; omega
          · have hb1 : (decide (sp.1 ≤ p1) && decide (p1 < sp.2)) = true := hh
            have HQ := Lib.hid hh
            go_wp2_with fail
            have hW0 : ∀ W, Below wc.drew.heap.size wc.drew W → Below g1 w1 W := fun W hW => HBC.out.drew.trans (hW.mono HZC.out)
            refine wp_region_planB [(true, 0), (true, 2), (true, 3), (true, 4), (true, 5), (true, 6), (false, 1), (false, 7), (true, 8)] (by kernel_rfl) (by kernel_rfl) (fun _ _ d _ _ h => by cases d <;> exact h) ?_
            repeat (first | (refine PlanB.take (v := ?_) rfl rfl ?_ ?_; rotate_left; (focus (intro W hW; obtain ⟨q0, q1, q2⟩ := HBX.out W (hW0 W hW); obtain ⟨k0, k1⟩ := HC.out W (hW0 W hW); go_simp; (try with_reducible rfl); done)); (try simp only [Act.put, List.setIfInBounds_toArray, List.set_cons_zero, List.set_cons_succ])) | (refine PlanB.skip rfl rfl ?_; (try simp only [Act.put, List.setIfInBounds_toArray, List.set_cons_zero, List.set_cons_succ])))
            clear hW0
            refine PlanB.step rfl rfl (fun Kk hK => ?_)
            go_simp
            go_at_call 47
            refine (HSP.out _).mono ?_
            rintro e w4 ⟨rfl, hb4⟩
            refine hK.out _ _ hb4 ?_
            clear hK Kk
            have HB4 := Lib.hid (show Below g1 w1 w4 from HBC.out.drew.trans (hb4.mono HZC.out))
            have HZ4 := Lib.hid (show g1 ≤ w4.heap.size from Nat.le_trans HZC.out hb4.size)
            have HO4 := Lib.hid (HOC.out.below (((Below.refl _ wc).drew).trans hb4) (Nat.le_refl _))
            clear hb4
            (try simp only [Act.put, List.setIfInBounds_toArray, List.set_cons_zero, List.set_cons_succ])
            refine PlanB.step rfl rfl (fun Kk hK => ?_)
            go_simp
            go_at_call 22
            refine (HH.out _).mono ?_
            rw [hb1]
            rintro e w5 ⟨rfl, hb5⟩
            refine hK.out _ _ hb5 ?_
            clear hK Kk
            have HB5 := Lib.hid (show Below g1 w1 w5 from HB4.out.trans (hb5.mono HZ4.out))
            have HZ5 := Lib.hid (show g1 ≤ w5.heap.size from Nat.le_trans HZ4.out hb5.size)
            have HO5 := Lib.hid (HO4.out.below hb5 (Nat.le_refl _))
            clear hb5 HB4 HZ4 HO4
            (try simp only [Act.put, List.setIfInBounds_toArray, List.set_cons_zero, List.set_cons_succ])
            repeat (first | (refine PlanB.take (v := ?_) rfl rfl ?_ ?_; rotate_left; (focus (intro W hW; go_simp; (try with_reducible rfl); done)); (try simp only [Act.put, List.setIfInBounds_toArray, List.set_cons_zero, List.set_cons_succ])) | (refine PlanB.skip rfl rfl ?_; (try simp only [Act.put, List.setIfInBounds_toArray, List.set_cons_zero, List.set_cons_succ])))
            simp only [PlanB]
            go_wp2_with fail
            go_roundw
            case rel => exact ⟨i + 1, out ++ [(x, y)], true, A2, c2, by omega, by go_num, rfl, by simp, by simpa using HO5.out, HB5.out, HZ5.out, by simp; omega, by rw [HD.out, HQ.out]; simp⟩
            case measure => simp [intOf]; omega
        · have hle2 : (!false && decide (x ≤ p1)) = false := by simp [hle]
          have hor : (false || decide (x ≤ p1)) = false := by simp [hle]
          rw [hle2, hor, if_neg (by simp), List.nil_append] at hd
          have HD := Lib.hid hd
          clear hd hle2 hor
          simp only [Bool.false_eq_true, if_false, Nat.add_zero] at hol
          go_wp2_with fail
          have hW0 : ∀ W, Below wr.drew.heap.size wr.drew W → Below g1 w1 W := fun W hW => HBW.out.drew.trans (hW.mono HBS.out)
          refine wp_region_planB [(true, 0), (true, 1), (true, 2), (true, 3), (true, 4), (true, 5), (true, 6), (true, 7), (true, 8), (true, 9), (true, 10), (true, 11)] (by kernel_rfl) (by kernel_rfl) (fun _ _ d _ _ h => by cases d <;> exact h) ?_
          repeat (first | (refine PlanB.take (v := ?_) rfl rfl ?_ ?_; rotate_left; (focus (intro W hW; obtain ⟨q0, q1, q2⟩ := HBX.out W (hW0 W hW); obtain ⟨k0, k1⟩ := HC.out W (hW0 W hW); go_simp; (try with_reducible rfl); done)); (try simp only [Act.put, List.setIfInBounds_toArray, List.set_cons_zero, List.set_cons_succ])) | (refine PlanB.skip rfl rfl ?_; (try simp only [Act.put, List.setIfInBounds_toArray, List.set_cons_zero, List.set_cons_succ])))
          simp only [PlanB]
          clear hW0
          obtain ⟨wc, hwc⟩ : ∃ wc, wc = wr.drew := ⟨_, rfl⟩
          have HBC := Lib.hid (show Below g1 w1 wc by rw [hwc]; exact HBW.out.drew)
          have HZC := Lib.hid (show g1 ≤ wc.heap.size by rw [hwc]; exact HBS.out)
          have HOC := Lib.hid (show OwnP wc g1 (.slice A' out.length c') out by rw [hwc]; exact HO.out)
          rw [← hwc]
          clear hwc
          cases hh : hasB sp p1
          · have hb1 : (decide (sp.1 ≤ p1) && decide (p1 < sp.2)) = false := hh
            have HQ := Lib.hid hh
            go_wp2_with fail
            have hW0 : ∀ W, Below wc.drew.heap.size wc.drew W → Below g1 w1 W := fun W hW => HBC.out.drew.trans (hW.mono HZC.out)
            refine wp_region_planB [(true, 0), (true, 2), (true, 3), (true, 4), (true, 5), (true, 6), (false, 1), (false, 7), (true, 8)] (by kernel_rfl) (by kernel_rfl) (fun _ _ d _ _ h => by cases d <;> exact h) ?_
            repeat (first | (refine PlanB.take (v := ?_) rfl rfl ?_ ?_; rotate_left; (focus (intro W hW; obtain ⟨q0, q1, q2⟩ := HBX.out W (hW0 W hW); obtain ⟨k0, k1⟩ := HC.out W (hW0 W hW); go_simp; (try with_reducible rfl); done)); (try simp only [Act.put, List.setIfInBounds_toArray, List.set_cons_zero, List.set_cons_succ])) | (refine PlanB.skip rfl rfl ?_; (try simp only [Act.put, List.setIfInBounds_toArray, List.set_cons_zero, List.set_cons_succ])))
            clear hW0
            refine PlanB.step rfl rfl (fun Kk hK => ?_)
            go_simp
            go_at_call 47
            refine (HSP.out _).mono ?_
            rintro e w4 ⟨rfl, hb4⟩
            refine hK.out _ _ hb4 ?_
            clear hK Kk
            have HB4 := Lib.hid (show Below g1 w1 w4 from HBC.out.drew.trans (hb4.mono HZC.out))
            have HZ4 := Lib.hid (show g1 ≤ w4.heap.size from Nat.le_trans HZC.out hb4.size)
            have HO4 := Lib.hid (HOC.out.below (((Below.refl _ wc).drew).trans hb4) (Nat.le_refl _))
            clear hb4
            (try simp only [Act.put, List.setIfInBounds_toArray, List.set_cons_zero, List.set_cons_succ])
            refine PlanB.step rfl rfl (fun Kk hK => ?_)
            go_simp
            go_at_call 22
            refine (HH.out _).mono ?_
            rw [hb1]
            rintro e w5 ⟨rfl, hb5⟩
            refine hK.out _ _ hb5 ?_
            clear hK Kk
            have HB5 := Lib.hid (show Below g1 w1 w5 from HB4.out.trans (hb5.mono HZ4.out))
            have HZ5 := Lib.hid (show g1 ≤ w5.heap.size from Nat.le_trans HZ4.out hb5.size)
            have HO5 := Lib.hid (HO4.out.below hb5 (Nat.le_refl _))
            clear hb5 HB4 HZ4 HO4
            (try simp only [Act.put, List.setIfInBounds_toArray, List.set_cons_zero, List.set_cons_succ])
            repeat (first | (refine PlanB.take (v := ?_) rfl rfl ?_ ?_; rotate_left; (focus (intro W hW; go_simp; (try with_reducible rfl); done)); (try simp only [Act.put, List.setIfInBounds_toArray, List.set_cons_zero, List.set_cons_succ])) | (refine PlanB.skip rfl rfl ?_; (try simp only [Act.put, List.setIfInBounds_toArray, List.set_cons_zero, List.set_cons_succ])))
            simp only [PlanB]
            obtain ⟨q0, q1, q2⟩ := HBX.out w5 HB5.out
            obtain ⟨k0, k1⟩ := HC.out w5 HB5.out
            go_wp2_with (at_builtin; go_must (refine wpList_addP rfl _ _ rfl g1 (.slice A' (out.length) c') (out) rfl ?fc1 (w5.heap.size + 1) _ [(p1, p2)] rfl (RdP.one w5 (p1, p2)) (by simp; omega) ?fc2 g1 w1 ?fc3 (Nat.le_refl _) ?fc4))
            case fc1 => simpa using HO5.out.alloc _
            case fc2 => have := HZ5.out; simp; omega
            case fc3 => exact HB5.out.alloc HZ5.out _
            intro A6 c6 w6 ho6 hb6 hz6
            go_wp2_with fail
            go_roundw
            case rel => exact ⟨i + 1, out ++ [(p1, p2)], false, A6, c6, by omega, by go_num, rfl, by simp, by simpa using ho6.out, hb6.out, hz6.out, by simp; omega, by rw [HD.out, HQ.out]; simp⟩
            case measure => simp [intOf]; omega
          · have hb1 : (decide (sp.1 ≤ p1) && decide (p1 < sp.2)) = true := hh
            have HQ := Lib.hid hh
            go_wp2_with fail
            have hW0 : ∀ W, Below wc.drew.heap.size wc.drew W → Below g1 w1 W := fun W hW => HBC.out.drew.trans (hW.mono HZC.out)
            refine wp_region_planB [(true, 0), (true, 2), (true, 3), (true, 4), (true, 5), (true, 6), (false, 1), (false, 7), (true, 8)] (by kernel_rfl) (by kernel_rfl) (fun _ _ d _ _ h => by cases d <;> exact h) ?_
            repeat (first | (refine PlanB.take (v := ?_) rfl rfl ?_ ?_; rotate_left; (focus (intro W hW; obtain ⟨q0, q1, q2⟩ := HBX.out W (hW0 W hW); obtain ⟨k0, k1⟩ := HC.out W (hW0 W hW); go_simp; (try with_reducible rfl); done)); (try simp only [Act.put, List.setIfInBounds_toArray, List.set_cons_zero, List.set_cons_succ])) | (refine PlanB.skip rfl rfl ?_; (try simp only [Act.put, List.setIfInBounds_toArray, List.set_cons_zero, List.set_cons_succ])))
            clear hW0
            refine PlanB.step rfl rfl (fun Kk hK => ?_)
            go_simp
            go_at_call 47
            refine (HSP.out _).mono ?_
            rintro e w4 ⟨rfl, hb4⟩
            refine hK.out _ _ hb4 ?_
            clear hK Kk
            have HB4 := Lib.hid (show Below g1 w1 w4 from HBC.out.drew.trans (hb4.mono HZC.out))
            have HZ4 := Lib.hid (show g1 ≤ w4.heap.size from Nat.le_trans HZC.out hb4.size)
            have HO4 := Lib.hid (HOC.out.below (((Below.refl _ wc).drew).trans hb4) (Nat.le_refl _))
            clear hb4
            (try simp only [Act.put, List.setIfInBounds_toArray, List.set_cons_zero, List.set_cons_succ])
            refine PlanB.step rfl rfl (fun Kk hK => ?_)
            go_simp
            go_at_call 22
            refine (HH.out _).mono ?_
            rw [hb1]
            rintro e w5 ⟨rfl, hb5⟩
            refine hK.out _ _ hb5 ?_
            clear hK Kk
            have HB5 := Lib.hid (show Below g1 w1 w5 from HB4.out.trans (hb5.mono HZ4.out))
            have HZ5 := Lib.hid (show g1 ≤ w5.heap.size from Nat.le_trans HZ4.out hb5.size)
            have HO5 := Lib.hid (HO4.out.below hb5 (Nat.le_refl _))
            clear hb5 HB4 HZ4 HO4
            (try simp only [Act.put, List.setIfInBounds_toArray, List.set_cons_zero, List.set_cons_succ])
            repeat (first | (refine PlanB.take (v := ?_) rfl rfl ?_ ?_; rotate_left; (focus (intro W hW; go_simp; (try with_reducible rfl); done)); (try simp only [Act.put, List.setIfInBounds_toArray, List.set_cons_zero, List.set_cons_succ])) | (refine PlanB.skip rfl rfl ?_; (try simp only [Act.put, List.setIfInBounds_toArray, List.set_cons_zero, List.set_cons_succ])))
            simp only [PlanB]
            go_wp2_with fail
            go_roundw
            case rel => exact ⟨i + 1, out, false, A', c', by omega, by go_num, rfl, by simp, by simpa using HO5.out, HB5.out, HZ5.out, by simp; omega, by rw [HD.out, HQ.out]; simp⟩
            case measure => simp [intOf]; omega
      · rw [Bool.not_true, Bool.false_and, if_neg (by simp), List.nil_append, Bool.true_or] at hd
        have HD := Lib.hid hd
        clear hd
        simp only [if_true] at hol
        go_wp2_with fail
        have hW0 : ∀ W, Below wr.drew.heap.size wr.drew W → Below g1 w1 W := fun W hW => HBW.out.drew.trans (hW.mono HBS.out)
        refine wp_region_planB [(true, 0), (true, 1), (true, 2), (true, 3), (true, 4), (true, 5), (true, 6), (true, 7), (true, 8), (true, 9), (true, 10), (true, 11)] (by kernel_rfl) (by kernel_rfl) (fun _ _ d _ _ h => by cases d <;> exact h) ?_
        repeat (first | (refine PlanB.take (v := ?_) rfl rfl ?_ ?_; rotate_left; (focus (intro W hW; obtain ⟨q0, q1, q2⟩ := HBX.out W (hW0 W hW); obtain ⟨k0, k1⟩ := HC.out W (hW0 W hW); go_simp; (try with_reducible rfl); done)); (try simp only [Act.put, List.setIfInBounds_toArray, List.set_cons_zero, List.set_cons_succ])) | (refine PlanB.skip rfl rfl ?_; (try simp only [Act.put, List.setIfInBounds_toArray, List.set_cons_zero, List.set_cons_succ])))
        simp only [PlanB]
        clear hW0
        obtain ⟨wc, hwc⟩ : ∃ wc, wc = wr.drew := ⟨_, rfl⟩
        have HBC := Lib.hid (show Below g1 w1 wc by rw [hwc]; exact HBW.out.drew)
        have HZC := Lib.hid (show g1 ≤ wc.heap.size by rw [hwc]; exact HBS.out)
        have HOC := Lib.hid (show OwnP wc g1 (.slice A' out.length c') out by rw [hwc]; exact HO.out)
        rw [← hwc]
        clear hwc
        cases hh : hasB sp p1
        · have hb1 : (decide (sp.1 ≤ p1) && decide (p1 < sp.2)) = false := hh
          have HQ := Lib.hid hh
          go_wp2_with fail
          have hW0 : ∀ W, Below wc.drew.heap.size wc.drew W → Below g1 w1 W := fun W hW => HBC.out.drew.trans (hW.mono HZC.out)
          refine wp_region_planB [(true, 0), (true, 2), (true, 3), (true, 4), (true, 5), (true, 6), (false, 1), (false, 7), (true, 8)] (by kernel_rfl) (by kernel_rfl) (fun _ _ d _ _ h => by cases d <;> exact h) ?_
          repeat (first | (refine PlanB.take (v := ?_) rfl rfl ?_ ?_; rotate_left; (focus (intro W hW; obtain ⟨q0, q1, q2⟩ := HBX.out W (hW0 W hW); obtain ⟨k0, k1⟩ := HC.out W (hW0 W hW); go_simp; (try with_reducible rfl); done)); (try simp only [Act.put, List.setIfInBounds_toArray, List.set_cons_zero, List.set_cons_succ])) | (refine PlanB.skip rfl rfl ?_; (try simp only [Act.put, List.setIfInBounds_toArray, List.set_cons_zero, List.set_cons_succ])))
          clear hW0
          refine PlanB.step rfl rfl (fun Kk hK => ?_)
          go_simp
          go_at_call 47
          refine (HSP.out _).mono ?_
          rintro e w4 ⟨rfl, hb4⟩
          refine hK.out _ _ hb4 ?_
          clear hK Kk
          have HB4 := Lib.hid (show Below g1 w1 w4 from HBC.out.drew.trans (hb4.mono HZC.out))
          have HZ4 := Lib.hid (show g1 ≤ w4.heap.size from Nat.le_trans HZC.out hb4.size)
          have HO4 := Lib.hid (HOC.out.below (((Below.refl _ wc).drew).trans hb4) (Nat.le_refl _))
          clear hb4
          (try simp only [Act.put, List.setIfInBounds_toArray, List.set_cons_zero, List.set_cons_succ])
          refine PlanB.step rfl rfl (fun Kk hK => ?_)
          go_simp
          go_at_call 22
          refine (HH.out _).mono ?_
          rw [hb1]
          rintro e w5 ⟨rfl, hb5⟩
          refine hK.out _ _ hb5 ?_
          clear hK Kk
          have HB5 := Lib.hid (show Below g1 w1 w5 from HB4.out.trans (hb5.mono HZ4.out))
          have HZ5 := Lib.hid (show g1 ≤ w5.heap.size from Nat.le_trans HZ4.out hb5.size)
          have HO5 := Lib.hid (HO4.out.below hb5 (Nat.le_refl _))
          clear hb5 HB4 HZ4 HO4
          (try simp only [Act.put, List.setIfInBounds_toArray, List.set_cons_zero, List.set_cons_succ])
          repeat (first | (refine PlanB.take (v := ?_) rfl rfl ?_ ?_; rotate_left; (focus (intro W hW; go_simp; (try with_reducible rfl); done)); (try simp only [Act.put, List.setIfInBounds_toArray, List.set_cons_zero, List.set_cons_succ])) | (refine PlanB.skip rfl rfl ?_; (try simp only [Act.put, List.setIfInBounds_toArray, List.set_cons_zero, List.set_cons_succ])))
          simp only [PlanB]
          obtain ⟨q0, q1, q2⟩ := HBX.out w5 HB5.out
          obtain ⟨k0, k1⟩ := HC.out w5 HB5.out
          go_wp2_with (at_builtin; go_must (refine wpList_addP rfl _ _ rfl g1 (.slice A' (out.length) c') (out) rfl ?fd1 (w5.heap.size + 1) _ [(p1, p2)] rfl (RdP.one w5 (p1, p2)) (by simp; omega) ?fd2 g1 w1 ?fd3 (Nat.le_refl _) ?fd4))
          case fd1 => simpa using HO5.out.alloc _
          case fd2 => have := HZ5.out; simp; omega
          case fd3 => exact HB5.out.alloc HZ5.out _
          intro A6 c6 w6 ho6 hb6 hz6
          go_wp2_with fail
          go_roundw
          case rel => exact ⟨i + 1, out ++ [(p1, p2)], true, A6, c6, by omega, by go_num, rfl, by simp, by simpa using ho6.out, hb6.out, hz6.out, by simp; omega, by rw [HD.out, HQ.out]; simp⟩
          case measure => simp [intOf]; omega
        · have hb1 : (decide (sp.1 ≤ p1) && decide (p1 < sp.2)) = true := hh
          have HQ := Lib.hid hh
          go_wp2_with fail
          have hW0 : ∀ W, Below wc.drew.heap.size wc.drew W → Below g1 w1 W := fun W hW => HBC.out.drew.trans (hW.mono HZC.out)
          refine wp_region_planB [(true, 0), (true, 2), (true, 3), (true, 4), (true, 5), (true, 6), (false, 1), (false, 7), (true, 8)] (by kernel_rfl) (by kernel_rfl) (fun _ _ d _ _ h => by cases d <;> exact h) ?_
          repeat (first | (refine PlanB.take (v := ?_) rfl rfl ?_ ?_; rotate_left; (focus (intro W hW; obtain ⟨q0, q1, q2⟩ := HBX.out W (hW0 W hW); obtain ⟨k0, k1⟩ := HC.out W (hW0 W hW); go_simp; (try with_reducible rfl); done)); (try simp only [Act.put, List.setIfInBounds_toArray, List.set_cons_zero, List.set_cons_succ])) | (refine PlanB.skip rfl rfl ?_; (try simp only [Act.put, List.setIfInBounds_toArray, List.set_cons_zero, List.set_cons_succ])))
          clear hW0
          refine PlanB.step rfl rfl (fun Kk hK => ?_)
          go_simp
          go_at_call 47
          refine (HSP.out _).mono ?_
          rintro e w4 ⟨rfl, hb4⟩
          refine hK.out _ _ hb4 ?_
          clear hK Kk
          have HB4 := Lib.hid (show Below g1 w1 w4 from HBC.out.drew.trans (hb4.mono HZC.out))
          have HZ4 := Lib.hid (show g1 ≤ w4.heap.size from Nat.le_trans HZC.out hb4.size)
          have HO4 := Lib.hid (HOC.out.below (((Below.refl _ wc).drew).trans hb4) (Nat.le_refl _))
          clear hb4
          (try simp only [Act.put, List.setIfInBounds_toArray, List.set_cons_zero, List.set_cons_succ])
          refine PlanB.step rfl rfl (fun Kk hK => ?_)
          go_simp
          go_at_call 22
          refine (HH.out _).mono ?_
          rw [hb1]
          rintro e w5 ⟨rfl, hb5⟩
          refine hK.out _ _ hb5 ?_
          clear hK Kk
          have HB5 := Lib.hid (show Below g1 w1 w5 from HB4.out.trans (hb5.mono HZ4.out))
          have HZ5 := Lib.hid (show g1 ≤ w5.heap.size from Nat.le_trans HZ4.out hb5.size)
          have HO5 := Lib.hid (HO4.out.below hb5 (Nat.le_refl _))
          clear hb5 HB4 HZ4 HO4
          (try simp only [Act.put, List.setIfInBounds_toArray, List.set_cons_zero, List.set_cons_succ])
          repeat (first | (refine PlanB.take (v := ?_) rfl rfl ?_ ?_; rotate_left; (focus (intro W hW; go_simp; (try with_reducible rfl); done)); (try simp only [Act.put, List.setIfInBounds_toArray, List.set_cons_zero, List.set_cons_succ])) | (refine PlanB.skip rfl rfl ?_; (try simp only [Act.put, List.setIfInBounds_toArray, List.set_cons_zero, List.set_cons_succ])))
          simp only [PlanB]
          go_wp2_with fail
          go_roundw
          case rel => exact ⟨i + 1, out, true, A', c', by omega, by go_num, rfl, by simp, by simpa using HO5.out, HB5.out, HZ5.out, by simp; omega, by rw [HD.out, HQ.out]; simp⟩
          case measure => simp [intOf]; omega
    · have hwz : w.heap.size ≤ g1 := by rw [HG.out]; omega
      have hd := HE.out
      rw [List.drop_eq_nil_of_le (by omega), oneGo] at hd
      have HD := Lib.hid hd
      clear hd
      have hnlt : ¬ (i : Int) < (l.length : Int) := by omega
      cases put
      · obtain ⟨q0, q1, q2⟩ := HBX.out wr HBW.out
        go_wp2_with (at_builtin; go_must (refine wpList_addP rfl _ _ rfl g1 (.slice A' out.length c') out rfl ?fe1 (wr.heap.size + 1) _ [(x, y)] rfl (RdP.one wr (x, y)) (by simp; simp at hol; omega) ?fe2 g1 w1 ?fe3 (Nat.le_refl _) ?fe4))
        case fe1 => exact (show OwnP wr g1 _ _ from HO.out).alloc _
        case fe2 => have := HBS.out; simp; omega
        case fe3 => exact HBW.out.alloc HBS.out _
        intro A2 c2 w2 ho2 hb2 hz2
        go_wp2_with fail
        have hRR : R = out ++ [(x, y)] := by rw [HD.out]; rfl
        subst hRR
        refine bodyPost_ret (v := .slice A2 (out ++ [(x, y)]).length c2) ?_ rfl ⟨_, _, rfl, by have h := ho2.out.lower hwz; rw [List.length_append]; exact h, HB01.out.trans (hb2.out.mono (hwz))⟩
        simp [results, Try.results37, go_sem]
      · go_wp2_with fail
        have hRR : R = out := by rw [HD.out]; simp
        subst hRR
        refine bodyPost_ret (v := .slice A' R.length c') ?_ rfl ⟨_, _, rfl, HO.out.lower (hwz), HB01.out.trans (HBW.out.mono (hwz))⟩
        simp [results, Try.results37, go_sem]
end Go.Proofs.Yteelnholmlabmaa
