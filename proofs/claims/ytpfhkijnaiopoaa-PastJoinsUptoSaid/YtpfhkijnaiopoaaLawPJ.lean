/- PastJoins's walk. -/
import Derived.Test.YtpfhkijnaiopoaaPTwo
namespace Go.Proofs.Ytpfhkijnaiopoaa
open Go.RowKit
attribute [local go_sem] less_eq same_eq le_eq ge_eq gt_eq

def j1 (a : List Chg) : Pa := ⟨0, 4, [(4, applyP [] a)]⟩
def j2 (a b : List Chg) : Pa := ⟨0, 8, [(4, applyP [] a), (8, applyP (applyP [] a) b)]⟩
def j3 (a b : List Chg) : Pa := ⟨0, 8, [(8, applyP (applyP [] a) b)]⟩
theorem j1_add {a : List Chg} (h : allAns a = 0) : Pa.new.add 4 a = (0, j1 a) := by rw [add_good (by decide) h]; rfl
theorem j2_add {a b : List Chg} (h : allAns b = 0) : (j1 a).add 8 b = (0, j2 a b) := by rw [add_good (by simp [j1]) h]; rfl
theorem allAns_append : ∀ {a b : List Chg}, allAns a = 0 → allAns b = 0 → allAns (a ++ b) = 0
  | [], b, _, hb => hb
  | x :: r, b, ha, hb => by
    rw [List.cons_append]
    unfold allAns at ha ⊢
    split at ha
    · rw [if_pos (by assumption)]
      exact allAns_append ha hb
    · exact absurd ha (by assumption)
theorem j3_add {a b : List Chg} (h : allAns a = 0) (h2 : allAns b = 0) : Pa.new.add 8 (a ++ b) = (0, j3 a b) := by
  rw [add_good (by decide) (allAns_append h h2), applyP_append]; rfl
theorem jbad1 {a : List Chg} (h : allAns a ≠ 0) : Pa.new.add 4 a = (allAns a, Pa.new) := add_bad (by decide) h
theorem jbad2 {a b : List Chg} (h : allAns b ≠ 0) : (j1 a).add 8 b = (allAns b, j1 a) := add_bad (by simp [j1]) h
theorem j_get (a b : List Chg) (k : K) : (j2 a b).get k 8 = (valOf (applyP (applyP [] a) b) k, 0) ∧ (j3 a b).get k 8 = (valOf (applyP (applyP [] a) b) k, 0) := ⟨rfl, rfl⟩
theorem j_list (a b : List Chg) (s : K × K) : (j2 a b).list s 8 1000 = (((applyP (applyP [] a) b).filter (fun x => hasB s x.1)).take 1000, 0) ∧ (j3 a b).list s 8 1000 = (((applyP (applyP [] a) b).filter (fun x => hasB s x.1)).take 1000, 0) := ⟨rfl, rfl⟩
theorem j_none (a b : List Chg) (s : K × K) : (j3 a b).list s 7 1000 = ([], 0) := rfl
section
variable {ops : Array Oper} {rest : List Oper} {o : Oper} {a : Act} {Q : Exit → Act → World → Prop} {w : World}
set_option maxRecDepth 100000 in
theorem wpList_addJ (hgd : Region.wanted o (yielded ops a.tmps) = true) (s x : Operand)
    (ho : o.op = .call { callee := .builtin .append, args := #[s, x], argTypes := #[34, 34] })
    (base : Nat) (v : Value) (l : List Chg) (hs : a.eval s = v) (hown : OwnC w base v l) (B : Nat) (v2 : Value) (p : List Chg) (hx : a.eval x = v2) (hp : RdC w B v2 p)
    (hlen : l.length + p.length ≤ 5000000000000) (hbase : base ≤ w.heap.size)
    (h : ∀ A' c' w', Hid (OwnC w' base (.slice A' (l ++ p).length c') (l ++ p)) → Hid (w.grownBy w' v.ownBlock) → wpList Try.prog ops Q rest (a.put o.dst (.slice A' (l ++ p).length c')) w') : wpList Try.prog ops Q (o :: rest) a w := by
  obtain ⟨i0, hi, hz0, hz1, hz2⟩ := info_parts info_chg
  refine BigFrame.wpList_want hgd fun K hK => ?_
  refine wp_addAny (enc := encC) (k := 3) 34 67 40 i0 _ Try.underlying34 hi hz0 hz1 hz2 rfl (by decide) encC_len encC_one s x ho base v l hs hown B v2 p hx hp (by unfold maxLen; omega) (by omega) hbase fun A' c' w' h1 h2 => ?_
  exact hK _ _ (h A' c' w' (Lib.hid h1) (Lib.hid h2))
end

set_option maxHeartbeats 8000000 in
set_option maxRecDepth 100000 in
theorem pastJoins_walk (a b : List Chg) (s : K × K) (key : K) (va vb : Value) (w : World) (ha : RdC w w.heap.size va a) (hb : RdC w w.heap.size vb b) (hsa : ∀ y ∈ a, smallC y) (hsb : ∀ y ∈ b, smallC y) (hs1 : smallS s.1) (hs2 : smallS s.2) (hkey : smallS key) (hn : a.length + b.length ≤ many) :
    Calls Try.prog 9 #[va, vb, spv s, .string key] w fun e w' => e = .returned (.bool true) ∧ Below w.heap.size w w' := by
  obtain ⟨s1, s2⟩ := s
  unfold spv
  simp only at hs1 hs2 ⊢
  obtain ⟨wa, hwa⟩ : ∃ wa, wa = w.alloc (.cells #[.string s1, .string s2] 33) := ⟨_, rfl⟩
  have hB0 : Below w.heap.size w wa := by rw [hwa]; exact (Below.refl _ w).alloc (Nat.le_refl _) _
  have hW0 : Whole wa w.heap.size 33 [.string s1, .string s2] := by rw [hwa]; exact Whole.fresh w _ [_, _]
  have HW := Lib.hid hwa
  have HBW := Lib.hid hB0
  have HWS := Lib.hid hW0
  have HNN := Lib.hid hn
  have Ha := Lib.hid ((ha.below hB0 (Nat.le_refl _)).mono hB0.size)
  have HSa := Lib.hid hsa
  have Hb := Lib.hid ((hb.below hB0 (Nat.le_refl _)).mono hB0.size)
  have HSb := Lib.hid hsb
  obtain ⟨Aa, ca, rfl, -, -⟩ := RdC.at ha
  obtain ⟨Ab, cb, rfl, -, -⟩ := RdC.at hb
  have HN := Lib.hid (pnew_any wa)
  clear hwa hB0 hW0 hn ha hb hsa hsb
  go_enter Try.func9, Try.ntmps9
  go_wp2_with fail
  rw [← HW.out]
  refine HN.out.mono ?_
  rintro e wb ⟨q1, Ga, rfl, hka, hba⟩
  have HKA := Lib.hid hka
  have HBA := Lib.hid hba
  have HN := Lib.hid (pnew_any wb)
  clear hka hba
  go_wp2_with fail
  refine HN.out.mono ?_
  rintro e w0 ⟨q2, Gb, rfl, hkb, hbb⟩
  have HT0 := Lib.hid (show Two w0 wa.heap.size q1 q2 Ga Gb 0 0 Pa.new Pa.new from ⟨HKA.out.same hbb, hkb.lower HBA.out.size, fun i hi hd => by have := (HKA.out.low.2 i hi).2; have := (hkb.low.2 i hd).1; omega⟩)
  have HB0 := Lib.hid (HBA.out.trans (hbb.mono HBA.out.size))
  clear hkb hbb HN HKA HBA
  have HC := Lib.hid (awake_any w0)
  go_wp2_with fail
  refine HC.out.mono ?_
  rintro e w1 ⟨rfl, hb⟩
  have HT1 := Lib.hid (HT0.out.same hb)
  have HB1 := Lib.hid (HB0.out.trans (hb.mono HB0.out.size))
  clear hb HC
  by_cases ha : allAns a = 0
  rotate_left
  · obtain ⟨z, hz⟩ : ∃ z, z = allAns a := ⟨_, rfl⟩
    have heq := jbad1 (show allAns a ≠ 0 from ha)
    rw [← hz] at heq ha
    have hc := padd_any wa.heap.size q1 _ _ _ 4 _ _ w1 HT1.out.a (by unfold I64; omega) (HT1.out.a.came (Nat.le_refl _) (Ha.out.below HB1.out (Nat.le_refl _))) HSa.out (by have := HNN.out; omega)
    rw [heq] at hc
    have HC := Lib.hid hc
    clear hc heq hz
    go_wp2_with fail
    refine HC.out.mono ?_
    rintro e w2 ⟨rfl, G2, hk, hG, hm⟩
    have HT2 := Lib.hid (HT1.out.one hk hG hm)
    have HB2 := Lib.hid (HB1.out.trans (pv_below HT1.out.a hm))
    clear hk hG hm HC
    have HC := Lib.hid (awake_any w2)
    go_wp2_with fail
    refine HC.out.mono ?_
    rintro e w3 ⟨rfl, hb⟩
    have HT3 := Lib.hid (HT2.out.same hb)
    have HB3 := Lib.hid (HB2.out.trans (hb.mono HB2.out.size))
    clear hb HC
    go_wp2_with fail
    go_ret
    exact ⟨rfl, HBW.out.trans (HB3.out.mono HBW.out.size)⟩
  have HQa := Lib.hid ha
  clear ha
  have hc := padd_any wa.heap.size q1 _ _ _ 4 _ _ w1 HT1.out.a (by unfold I64; omega) (HT1.out.a.came (Nat.le_refl _) (Ha.out.below HB1.out (Nat.le_refl _))) HSa.out (by have := HNN.out; omega)
  rw [j1_add HQa.out] at hc
  have HC := Lib.hid hc
  clear hc
  go_wp2_with fail
  refine HC.out.mono ?_
  rintro e w2 ⟨rfl, G2, hk, hG, hm⟩
  have HT2 := Lib.hid (HT1.out.one hk hG hm)
  have HB2 := Lib.hid (HB1.out.trans (pv_below HT1.out.a hm))
  clear hk hG hm HC
  by_cases hb : allAns b = 0
  rotate_left
  · obtain ⟨z, hz⟩ : ∃ z, z = allAns b := ⟨_, rfl⟩
    have heq := jbad2 (a := a) (show allAns b ≠ 0 from hb)
    rw [← hz] at heq hb
    have hc := padd_any wa.heap.size q1 _ _ _ 8 _ _ w2 HT2.out.a (by unfold I64; omega) (HT2.out.a.came (Nat.le_refl _) (Hb.out.below HB2.out (Nat.le_refl _))) HSb.out (by have := HNN.out; omega)
    rw [heq] at hc
    have HC := Lib.hid hc
    clear hc heq hz
    go_wp2_with fail
    refine HC.out.mono ?_
    rintro e w3 ⟨rfl, G3, hk, hG, hm⟩
    have HT3 := Lib.hid (HT2.out.one hk hG hm)
    have HB3 := Lib.hid (HB2.out.trans (pv_below HT2.out.a hm))
    clear hk hG hm HC
    have HC := Lib.hid (awake_any w3)
    go_wp2_with fail
    refine HC.out.mono ?_
    rintro e w4 ⟨rfl, hb⟩
    have HT4 := Lib.hid (HT3.out.same hb)
    have HB4 := Lib.hid (HB3.out.trans (hb.mono HB3.out.size))
    clear hb HC
    go_wp2_with fail
    go_ret
    exact ⟨rfl, HBW.out.trans (HB4.out.mono HBW.out.size)⟩
  have HQb := Lib.hid hb
  clear hb
  have hc := padd_any wa.heap.size q1 _ _ _ 8 _ _ w2 HT2.out.a (by unfold I64; omega) (HT2.out.a.came (Nat.le_refl _) (Hb.out.below HB2.out (Nat.le_refl _))) HSb.out (by have := HNN.out; omega)
  rw [j2_add HQb.out] at hc
  have HC := Lib.hid hc
  clear hc
  go_wp2_with fail
  refine HC.out.mono ?_
  rintro e w3 ⟨rfl, G3, hk, hG, hm⟩
  have HT3 := Lib.hid (HT2.out.one hk hG hm)
  have HB3 := Lib.hid (HB2.out.trans (pv_below HT2.out.a hm))
  clear hk hG hm HC
  have hem := Own.empty (enc := encC) (k := 3) (e := 67) w3 w3.heap.size (Nat.le_refl _)
  have hbn : Below w3.heap.size w3 (w3.alloc (.cells #[] 67)) := (Below.refl _ w3).alloc (Nat.le_refl _) _
  have HEM := Lib.hid hem
  have HBN := Lib.hid hbn
  have HZN := Lib.hid hbn.size
  have HRA := Lib.hid ((Ha.out.below HB3.out (Nat.le_refl _)).below hbn HB3.out.size)
  clear hem hbn
  go_wp2_with (at_builtin; refine wpList_addJ rfl _ _ rfl w3.heap.size (.slice (some ⟨w3.heap.size, 0, none⟩) 0 0) [] rfl HEM.out wa.heap.size (.slice Aa a.length ca) a rfl HRA.out (by have := HNN.out; have : many = 3000000 := rfl; simp only [List.length_nil]; omega) HZN.out ?_)
  intro A4 c4 wc hoc hgc
  have hoc2 : OwnC wc w3.heap.size (.slice A4 a.length c4) a := by simpa using hoc.out
  have hbc : Below w3.heap.size w3 wc := HEM.out.grown HBN.out hgc.out (Nat.le_refl _) HZN.out
  have HOC := Lib.hid hoc2
  have HBC := Lib.hid hbc
  have HZC := Lib.hid hbc.size
  have HRB := Lib.hid ((Hb.out.below HB3.out (Nat.le_refl _)).below hbc HB3.out.size)
  clear hoc hgc hoc2 hbc
  go_wp2_with (at_builtin; refine wpList_addJ rfl _ _ rfl w3.heap.size (.slice A4 a.length c4) a rfl HOC.out wa.heap.size (.slice Ab b.length cb) b rfl HRB.out (by have := HNN.out; have : many = 3000000 := rfl; omega) HZC.out ?_)
  intro A5 c5 wd hod hgd
  have hbd : Below w3.heap.size w3 wd := HOC.out.grown HBC.out hgd.out (Nat.le_refl _) HZC.out
  obtain ⟨U, hU⟩ : ∃ U, U = a ++ b := ⟨_, rfl⟩
  have hul : a.length + b.length = U.length := by rw [hU]; simp
  have hod2 : OwnC wd w3.heap.size (.slice A5 U.length c5) U := by rw [← hul, hU]; exact hod.out
  have HTD := Lib.hid (HT3.out.same hbd)
  have HBD := Lib.hid (HB3.out.trans (hbd.mono HB3.out.size))
  have hru : RdG encC 3 wd wd.heap.size Gb (.slice A5 U.length c5) U := RdG.own encC_len hod2 fun b hb1 _ _ hg => by have := (HT3.out.b.low.2 b hg).2; omega
  have hsu : ∀ y ∈ U, smallC y := fun y hy => by
    rw [hU] at hy
    rcases List.mem_append.1 hy with h | h
    · exact HSa.out y h
    · exact HSb.out y h
  have hc := padd_any wa.heap.size q2 _ _ _ 8 _ _ wd HTD.out.b (by unfold I64; omega) hru hsu (by have := HNN.out; omega)
  have heq := j3_add HQa.out HQb.out
  rw [← hU] at heq
  rw [heq] at hc
  have HC := Lib.hid hc
  rw [hul]
  clear hod hgd hbd hU hul hod2 hru hsu hc heq HT3 HB3
  go_wp2_with fail
  refine HC.out.mono ?_
  rintro e w4 ⟨rfl, G4, hk, hG, hm⟩
  have HT4 := Lib.hid (HTD.out.two hk hG hm)
  have HB4 := Lib.hid (HBD.out.trans (pv_below HTD.out.b hm))
  have HWX4 := Lib.hid (HWS.out.below HB4.out HWS.out.size)
  clear hk hG hm HC HTD HBD
  obtain ⟨X, hX⟩ : ∃ X, X = ((applyP (applyP [] a) b).filter (fun x => hasB (s1, s2) x.1)).take 1000 := ⟨_, rfl⟩
  have heq := j_list a b (s1, s2)
  rw [← hX] at heq
  have HXL := Lib.hid (show X.length ≤ 1000 by rw [hX, List.length_take]; omega)
  have HEQ := Lib.hid heq
  obtain ⟨⟨VS, VB⟩, hV⟩ : ∃ V, V = valOf (applyP (applyP [] a) b) key := ⟨_, rfl⟩
  have hge := j_get a b key
  rw [← hV] at hge
  have HGE := Lib.hid hge
  clear heq hX hV hge
  have d0 := HWX4.out.cell 0 _ rfl
  have d1 := HWX4.out.cell 1 _ rfl
  have hc := plist_any wa.heap.size q1 _ _ _ (s1, s2) 8 1000 w4 HT4.out.a (by unfold I64; omega) (by unfold I64; omega) hs1 hs2
  rw [HEQ.out.1] at hc
  unfold spv at hc
  simp only at hc
  have HC := Lib.hid hc
  clear hc
  go_wp2_with fail
  refine HC.out.mono ?_
  rintro e w5 ⟨Ax, cx, rfl, hrx, hbx⟩
  have HT5 := Lib.hid (HT4.out.same hbx)
  have HB5 := Lib.hid (HB4.out.trans (hbx.mono HB4.out.size))
  have HWX5 := Lib.hid (HWX4.out.below hbx HWX4.out.size)
  have HRX := Lib.hid hrx.rd
  clear hrx hbx HC d0 d1
  have d0 := HWX5.out.cell 0 _ rfl
  have d1 := HWX5.out.cell 1 _ rfl
  have hc := plist_any wa.heap.size q2 _ _ _ (s1, s2) 8 1000 w5 HT5.out.b (by unfold I64; omega) (by unfold I64; omega) hs1 hs2
  rw [HEQ.out.2] at hc
  unfold spv at hc
  simp only at hc
  have HC := Lib.hid hc
  clear hc
  go_wp2_with fail
  refine HC.out.mono ?_
  rintro e w6 ⟨Ay, cy, rfl, hry, hby⟩
  have HT6 := Lib.hid (HT5.out.same hby)
  have HB6 := Lib.hid (HB5.out.trans (hby.mono HB5.out.size))
  have HWX6 := Lib.hid (HWX5.out.below hby HWX5.out.size)
  have HRX2 := Lib.hid (HRX.out.next hby)
  have HRY := Lib.hid hry.rd
  clear hry hby HC HRX d0 d1
  have hc := pget_any wa.heap.size q1 _ _ _ key 8 w6 HT6.out.a (by unfold I64; omega) hkey
  rw [HGE.out.1] at hc
  have HC := Lib.hid hc
  clear hc
  go_wp2_with fail
  refine HC.out.mono ?_
  rintro e w7 ⟨rfl, hb⟩
  have HT7 := Lib.hid (HT6.out.same hb)
  have HB7 := Lib.hid (HB6.out.trans (hb.mono HB6.out.size))
  have HRX3 := Lib.hid (HRX2.out.next hb)
  have HRY3 := Lib.hid (HRY.out.next hb)
  clear hb HC HRX2 HRY
  have hc := pget_any wa.heap.size q2 _ _ _ key 8 w7 HT7.out.b (by unfold I64; omega) hkey
  rw [HGE.out.2] at hc
  have HC := Lib.hid hc
  clear hc
  go_wp2_with fail
  refine HC.out.mono ?_
  rintro e w8 ⟨rfl, hb⟩
  have HT8 := Lib.hid (HT7.out.same hb)
  have HB8 := Lib.hid (HB7.out.trans (hb.mono HB7.out.size))
  have HRX4 := Lib.hid (HRX3.out.next hb)
  have HRY4 := Lib.hid (HRY3.out.next hb)
  have HWX8 := Lib.hid (HWS.out.below HB8.out HWS.out.size)
  clear hb HC HRX3 HRY3
  have d0 := HWX8.out.cell 0 _ rfl
  have d1 := HWX8.out.cell 1 _ rfl
  have hc := plist_any wa.heap.size q2 _ _ _ (s1, s2) 7 1000 w8 HT8.out.b (by unfold I64; omega) (by unfold I64; omega) hs1 hs2
  rw [j_none] at hc
  unfold spv at hc
  simp only at hc
  have HC := Lib.hid hc
  clear hc
  go_wp2_with fail
  refine HC.out.mono ?_
  rintro e w9 ⟨Az, cz, rfl, -, hb⟩
  have HT9 := Lib.hid (HT8.out.same hb)
  have HB9 := Lib.hid (HB8.out.trans (hb.mono HB8.out.size))
  have HRX5 := Lib.hid (HRX4.out.next hb)
  have HRY5 := Lib.hid (HRY4.out.next hb)
  clear hb HC HRX4 HRY4 d0 d1
  have hc := pairs_any X X _ _ w9 HRX5.out HRY5.out (by have := HXL.out; omega) (by have := HXL.out; omega)
  rw [show decide (X = X) = true from decide_eq_true rfl] at hc
  have HC := Lib.hid hc
  clear hc
  go_wp2_with fail
  refine HC.out.mono ?_
  rintro e wz ⟨rfl, hb⟩
  have HBZ := Lib.hid (HB9.out.trans (hb.mono HB9.out.size))
  clear hb HC
  cases VB
  all_goals
    go_wp2_with fail
    go_ret
    exact ⟨rfl, HBW.out.trans (HBZ.out.mono HBW.out.size)⟩
end Go.Proofs.Ytpfhkijnaiopoaa
