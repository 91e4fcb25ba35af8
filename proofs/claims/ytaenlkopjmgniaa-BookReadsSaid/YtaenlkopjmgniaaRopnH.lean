/- What the reference's Open answers. -/
import Derived.Test.YtaenlkopjmgniaaRefc
import Derived.Test.YtaenlkopjmgniaaPF
namespace Go.Proofs.Ytaenlkopjmgniaa
open Go.RowKit
attribute [local go_sem] same_str

set_option maxHeartbeats 2000000 in
set_option maxRecDepth 100000 in
theorem ropen_hold (l : List UInt8) (v : Value) (w : World) (hv : RdB w w.heap.size v l) (hl : l.length ≤ 140737488355320) : Calls Try.prog 32 #[v] w fun e w' => ∃ v', e = .returned (.tuple #[v', .int .i64 (openAns l).2]) ∧ HoldB w' w.heap.size v' (openAns l).1 ∧ Below w.heap.size w w' := by
  by_cases h4 : l.length < 4
  · obtain ⟨A, c, rfl, hc, _⟩ := hv.at
    rw [show openAns l = ([], 3) by rw [openAns, if_pos h4]]
    clear hv
    go_enter Try.func32, Try.ntmps32
    go_wp2_with fail
    go_ret2
    exact ⟨_, rfl, HoldB.nil _ _, Below.refl _ _⟩
  · obtain ⟨p, r, rfl, hp⟩ : ∃ p r, l = p ++ r ∧ p.length = 4 := ⟨l.take 4, l.drop 4, by simp, by simp; omega⟩
    obtain ⟨A, c, rfl, hc, hi⟩ := hv.at
    obtain ⟨b, o, rfl, hbB, _⟩ := hi 0 (by simp [hp]; omega)
    clear hi
    obtain ⟨c', rfl⟩ : ∃ c', c = c' + 4 := ⟨c - 4, by simp [hp] at hc; omega⟩
    have hlen : (p ++ r).length = r.length + 4 := by simp [hp]; omega
    have htl := hv.tail hp c' (by simp [hp] at hc; omega)
    have hans : openAns (p ++ r) = if val p = sum r then (r, 0) else ([], 2) := by
      rw [openAns, if_neg h4, show (p ++ r).take 4 = p by rw [← hp]; simp, show (p ++ r).drop 4 = r by rw [← hp]; simp]
    rw [hans]
    rw [hlen] at hv hc hl ⊢
    clear hans hlen h4
    have hcr : r.length ≤ c' := by omega
    have HT := Lib.hid htl; clear htl
    have HV := Lib.hid hv; clear hv
    obtain ⟨tp, htp⟩ : ∃ tp, tp = Value.slice (if c' = 0 then some ⟨b, o, none⟩ else some ⟨b, o + 4, none⟩) r.length c' := ⟨_, rfl⟩
    have hrt : RdB w w.heap.size tp r := by
      subst htp
      split
      · have : r = [] := List.eq_nil_of_length_eq_zero (by omega)
        subst this
        exact Rd.none_ _ _ _ _
      · exact HT.out
    have HRT := Lib.hid hrt; clear hrt
    have HX := Lib.hid htp
    clear htp HT
    have hse := sealed_eq (r := r) hp
    by_cases hxs : val p = sum r
    · rw [if_pos hxs]
      have HSE := Lib.hid (hse.2 hxs)
      clear hxs hse
      by_cases hc0 : c' = 0
      · have hr0 : r = [] := List.eq_nil_of_length_eq_zero (by omega)
        subst hc0 hr0
        have htp := HX.out
        simp only [if_true] at htp
        subst htp
        have hcv : ∀ W, Below w.drew.heap.size w.drew W → (convert 36 9 (.slice (some ⟨b, o, none⟩) 4 4)).run Try.prog W = .ok (.string (strB (p ++ ([] : List UInt8)))) W := fun W hW => run_convB (HV.out.below (((Below.refl _ w).drew).trans hW) (Nat.le_refl _))
        have hrt : RdB w w.heap.size (.slice (some ⟨b, o, none⟩) 0 0) ([] : List UInt8) := HRT.out
        have HCV := Lib.hid hcv; clear hcv
        have HRD := Lib.hid hrt; clear hrt
        go_enter Try.func32, Try.ntmps32
        go_wp2_with fail
        refine wp_region_planB [(true, 0), (true, 1), (true, 4), (true, 5), (false, 2), (false, 3), (true, 6)] (by kernel_rfl) (by kernel_rfl) (fun _ _ d _ _ h => by cases d <;> exact h) ?_
        (refine PlanB.take (v := ?_) rfl rfl ?_ ?_; rotate_left; (focus (intro W hW; go_simp; (try with_reducible rfl); done)); (try simp only [Act.put, List.setIfInBounds_toArray, List.set_cons_zero, List.set_cons_succ]))
        (refine PlanB.take (v := ?_) rfl rfl ?_ ?_; rotate_left; (focus (intro W hW; go_simp; (try with_reducible rfl); done)); (try simp only [Act.put, List.setIfInBounds_toArray, List.set_cons_zero, List.set_cons_succ]))
        (refine PlanB.take (v := ?_) rfl rfl ?_ ?_; rotate_left; (focus (intro W hW; go_simp; (try with_reducible rfl); done)); (try simp only [Act.put, List.setIfInBounds_toArray, List.set_cons_zero, List.set_cons_succ]))
        (refine PlanB.take (v := ?_) rfl rfl ?_ ?_; rotate_left; (focus (intro W hW; have k1 := HCV.out W hW; go_simp; (try with_reducible rfl); done)); (try simp only [Act.put, List.setIfInBounds_toArray, List.set_cons_zero, List.set_cons_succ]))
        refine PlanB.step rfl rfl (fun Kk hK => ?_)
        go_simp
        go_at_call 28
        refine (rseal_any ([] : List UInt8) (.slice (some ⟨b, o, none⟩) 0 0) w.drew HRD.out (by first | omega | simp)).mono ?_
        rintro e w1 ⟨A1, c1, rfl, ho1, hb1⟩
        have hcv1 := run_convB ho1.rdB
        have hb1w : Below w.heap.size w w1 := ((Below.refl _ w).drew).trans hb1
        have HB1 := Lib.hid hb1w
        have HB0 := Lib.hid hb1
        clear ho1 hb1 hb1w
        refine hK.out _ _ HB0.out ?_
        clear hK Kk HB0
        (try simp only [Act.put, List.setIfInBounds_toArray, List.set_cons_zero, List.set_cons_succ])
        refine PlanB.step rfl rfl (fun Kk hK => ?_)
        go_simp
        refine hK.out _ _ (Below.refl _ _) ?_
        clear hK Kk hcv1
        (try simp only [Act.put, List.setIfInBounds_toArray, List.set_cons_zero, List.set_cons_succ])
        (refine PlanB.take (v := ?_) rfl rfl ?_ ?_; rotate_left; (focus (intro W hW; have k2 := HSE.out; (try simp only [List.append_nil] at k2); go_simp; (try with_reducible rfl); done)); (try simp only [Act.put, List.setIfInBounds_toArray, List.set_cons_zero, List.set_cons_succ]))
        simp only [PlanB]
        go_wp2_with (at_builtin; go_must (refine wpList_addB rfl _ _ rfl w1.heap.size (.slice (some ⟨w1.heap.size, 0, none⟩) 0 0) [] rfl ?p1 w.heap.size (.slice (some ⟨b, o, none⟩) 0 0) ([] : List UInt8) rfl ?p2 (by first | (simp; done) | (simp; omega)) (by simp) w.heap.size w ?p3 ?p5 ?p4))
        case p1 => exact Own.empty _ _ (Nat.le_refl _)
        case p2 => exact HRD.out.below (HB1.out.alloc HB1.out.size _) (Nat.le_refl _)
        case p3 => exact HB1.out.alloc HB1.out.size _
        case p5 => exact HB1.out.size
        intro A2 c2 w2 ho2 hb2 hz2
        go_wp2_with fail
        go_ret2
        exact ⟨_, rfl, by simpa using (HoldB.ofOwn ho2.out).lower HB1.out.size, hb2.out⟩
      · have htp := HX.out
        rw [if_neg hc0] at htp
        subst htp
        have hcv : ∀ W, Below w.drew.heap.size w.drew W → (convert 36 9 (.slice (some ⟨b, o, none⟩) (r.length + 4) (c' + 4))).run Try.prog W = .ok (.string (strB (p ++ r))) W := fun W hW => run_convB (HV.out.below (((Below.refl _ w).drew).trans hW) (Nat.le_refl _))
        have hrt : RdB w w.heap.size (.slice (some ⟨b, o + 4, none⟩) r.length c') r := HRT.out
        have HCV := Lib.hid hcv; clear hcv
        have HRD := Lib.hid hrt; clear hrt
        go_enter Try.func32, Try.ntmps32
        go_wp2_with fail
        refine wp_region_planB [(true, 0), (true, 1), (true, 4), (true, 5), (false, 2), (false, 3), (true, 6)] (by kernel_rfl) (by kernel_rfl) (fun _ _ d _ _ h => by cases d <;> exact h) ?_
        (refine PlanB.take (v := ?_) rfl rfl ?_ ?_; rotate_left; (focus (intro W hW; go_simp; (try with_reducible rfl); done)); (try simp only [Act.put, List.setIfInBounds_toArray, List.set_cons_zero, List.set_cons_succ]))
        (refine PlanB.take (v := ?_) rfl rfl ?_ ?_; rotate_left; (focus (intro W hW; go_simp; (try with_reducible rfl); done)); (try simp only [Act.put, List.setIfInBounds_toArray, List.set_cons_zero, List.set_cons_succ]))
        (refine PlanB.take (v := ?_) rfl rfl ?_ ?_; rotate_left; (focus (intro W hW; go_simp; (try with_reducible rfl); done)); (try simp only [Act.put, List.setIfInBounds_toArray, List.set_cons_zero, List.set_cons_succ]))
        (refine PlanB.take (v := ?_) rfl rfl ?_ ?_; rotate_left; (focus (intro W hW; have k1 := HCV.out W hW; go_simp; (try with_reducible rfl); done)); (try simp only [Act.put, List.setIfInBounds_toArray, List.set_cons_zero, List.set_cons_succ]))
        refine PlanB.step rfl rfl (fun Kk hK => ?_)
        go_simp
        go_at_call 28
        refine (rseal_any r (.slice (some ⟨b, o + 4, none⟩) r.length c') w.drew HRD.out (by first | omega | simp)).mono ?_
        rintro e w1 ⟨A1, c1, rfl, ho1, hb1⟩
        have hcv1 := run_convB ho1.rdB
        have hb1w : Below w.heap.size w w1 := ((Below.refl _ w).drew).trans hb1
        have HB1 := Lib.hid hb1w
        have HB0 := Lib.hid hb1
        clear ho1 hb1 hb1w
        refine hK.out _ _ HB0.out ?_
        clear hK Kk HB0
        (try simp only [Act.put, List.setIfInBounds_toArray, List.set_cons_zero, List.set_cons_succ])
        refine PlanB.step rfl rfl (fun Kk hK => ?_)
        go_simp
        refine hK.out _ _ (Below.refl _ _) ?_
        clear hK Kk hcv1
        (try simp only [Act.put, List.setIfInBounds_toArray, List.set_cons_zero, List.set_cons_succ])
        (refine PlanB.take (v := ?_) rfl rfl ?_ ?_; rotate_left; (focus (intro W hW; have k2 := HSE.out; (try simp only [List.append_nil] at k2); go_simp; (try with_reducible rfl); done)); (try simp only [Act.put, List.setIfInBounds_toArray, List.set_cons_zero, List.set_cons_succ]))
        simp only [PlanB]
        go_wp2_with (at_builtin; go_must (refine wpList_addB rfl _ _ rfl w1.heap.size (.slice (some ⟨w1.heap.size, 0, none⟩) 0 0) [] rfl ?q1 w.heap.size (.slice (some ⟨b, o + 4, none⟩) r.length c') r rfl ?q2 (by first | (simp; done) | (simp; omega)) (by simp) w.heap.size w ?q3 ?q5 ?q4))
        case q1 => exact Own.empty _ _ (Nat.le_refl _)
        case q2 => exact HRD.out.below (HB1.out.alloc HB1.out.size _) (Nat.le_refl _)
        case q3 => exact HB1.out.alloc HB1.out.size _
        case q5 => exact HB1.out.size
        intro A2 c2 w2 ho2 hb2 hz2
        go_wp2_with fail
        go_ret2
        exact ⟨_, rfl, by simpa using (HoldB.ofOwn ho2.out).lower HB1.out.size, hb2.out⟩
    · rw [if_neg hxs]
      have HSE := Lib.hid (show ¬ (sealed r = p ++ r) from fun h => hxs (hse.1 h))
      clear hxs hse
      by_cases hc0 : c' = 0
      · have hr0 : r = [] := List.eq_nil_of_length_eq_zero (by omega)
        subst hc0 hr0
        have htp := HX.out
        simp only [if_true] at htp
        subst htp
        have hcv : ∀ W, Below w.drew.heap.size w.drew W → (convert 36 9 (.slice (some ⟨b, o, none⟩) 4 4)).run Try.prog W = .ok (.string (strB (p ++ ([] : List UInt8)))) W := fun W hW => run_convB (HV.out.below (((Below.refl _ w).drew).trans hW) (Nat.le_refl _))
        have hrt : RdB w w.heap.size (.slice (some ⟨b, o, none⟩) 0 0) ([] : List UInt8) := HRT.out
        have HCV := Lib.hid hcv; clear hcv
        have HRD := Lib.hid hrt; clear hrt
        go_enter Try.func32, Try.ntmps32
        go_wp2_with fail
        refine wp_region_planB [(true, 0), (true, 1), (true, 4), (true, 5), (false, 2), (false, 3), (true, 6)] (by kernel_rfl) (by kernel_rfl) (fun _ _ d _ _ h => by cases d <;> exact h) ?_
        (refine PlanB.take (v := ?_) rfl rfl ?_ ?_; rotate_left; (focus (intro W hW; go_simp; (try with_reducible rfl); done)); (try simp only [Act.put, List.setIfInBounds_toArray, List.set_cons_zero, List.set_cons_succ]))
        (refine PlanB.take (v := ?_) rfl rfl ?_ ?_; rotate_left; (focus (intro W hW; go_simp; (try with_reducible rfl); done)); (try simp only [Act.put, List.setIfInBounds_toArray, List.set_cons_zero, List.set_cons_succ]))
        (refine PlanB.take (v := ?_) rfl rfl ?_ ?_; rotate_left; (focus (intro W hW; go_simp; (try with_reducible rfl); done)); (try simp only [Act.put, List.setIfInBounds_toArray, List.set_cons_zero, List.set_cons_succ]))
        (refine PlanB.take (v := ?_) rfl rfl ?_ ?_; rotate_left; (focus (intro W hW; have k1 := HCV.out W hW; go_simp; (try with_reducible rfl); done)); (try simp only [Act.put, List.setIfInBounds_toArray, List.set_cons_zero, List.set_cons_succ]))
        refine PlanB.step rfl rfl (fun Kk hK => ?_)
        go_simp
        go_at_call 28
        refine (rseal_any ([] : List UInt8) (.slice (some ⟨b, o, none⟩) 0 0) w.drew HRD.out (by first | omega | simp)).mono ?_
        rintro e w1 ⟨A1, c1, rfl, ho1, hb1⟩
        have hcv1 := run_convB ho1.rdB
        have hb1w : Below w.heap.size w w1 := ((Below.refl _ w).drew).trans hb1
        have HB1 := Lib.hid hb1w
        have HB0 := Lib.hid hb1
        clear ho1 hb1 hb1w
        refine hK.out _ _ HB0.out ?_
        clear hK Kk HB0
        (try simp only [Act.put, List.setIfInBounds_toArray, List.set_cons_zero, List.set_cons_succ])
        refine PlanB.step rfl rfl (fun Kk hK => ?_)
        go_simp
        refine hK.out _ _ (Below.refl _ _) ?_
        clear hK Kk hcv1
        (try simp only [Act.put, List.setIfInBounds_toArray, List.set_cons_zero, List.set_cons_succ])
        (refine PlanB.take (v := ?_) rfl rfl ?_ ?_; rotate_left; (focus (intro W hW; have k2 := HSE.out; (try simp only [List.append_nil] at k2); go_simp; (try with_reducible rfl); done)); (try simp only [Act.put, List.setIfInBounds_toArray, List.set_cons_zero, List.set_cons_succ]))
        simp only [PlanB]
        go_wp2_with fail
        go_ret2
        exact ⟨_, rfl, HoldB.nil _ _, HB1.out⟩
      · have htp := HX.out
        rw [if_neg hc0] at htp
        subst htp
        have hcv : ∀ W, Below w.drew.heap.size w.drew W → (convert 36 9 (.slice (some ⟨b, o, none⟩) (r.length + 4) (c' + 4))).run Try.prog W = .ok (.string (strB (p ++ r))) W := fun W hW => run_convB (HV.out.below (((Below.refl _ w).drew).trans hW) (Nat.le_refl _))
        have hrt : RdB w w.heap.size (.slice (some ⟨b, o + 4, none⟩) r.length c') r := HRT.out
        have HCV := Lib.hid hcv; clear hcv
        have HRD := Lib.hid hrt; clear hrt
        go_enter Try.func32, Try.ntmps32
        go_wp2_with fail
        refine wp_region_planB [(true, 0), (true, 1), (true, 4), (true, 5), (false, 2), (false, 3), (true, 6)] (by kernel_rfl) (by kernel_rfl) (fun _ _ d _ _ h => by cases d <;> exact h) ?_
        (refine PlanB.take (v := ?_) rfl rfl ?_ ?_; rotate_left; (focus (intro W hW; go_simp; (try with_reducible rfl); done)); (try simp only [Act.put, List.setIfInBounds_toArray, List.set_cons_zero, List.set_cons_succ]))
        (refine PlanB.take (v := ?_) rfl rfl ?_ ?_; rotate_left; (focus (intro W hW; go_simp; (try with_reducible rfl); done)); (try simp only [Act.put, List.setIfInBounds_toArray, List.set_cons_zero, List.set_cons_succ]))
        (refine PlanB.take (v := ?_) rfl rfl ?_ ?_; rotate_left; (focus (intro W hW; go_simp; (try with_reducible rfl); done)); (try simp only [Act.put, List.setIfInBounds_toArray, List.set_cons_zero, List.set_cons_succ]))
        (refine PlanB.take (v := ?_) rfl rfl ?_ ?_; rotate_left; (focus (intro W hW; have k1 := HCV.out W hW; go_simp; (try with_reducible rfl); done)); (try simp only [Act.put, List.setIfInBounds_toArray, List.set_cons_zero, List.set_cons_succ]))
        refine PlanB.step rfl rfl (fun Kk hK => ?_)
        go_simp
        go_at_call 28
        refine (rseal_any r (.slice (some ⟨b, o + 4, none⟩) r.length c') w.drew HRD.out (by first | omega | simp)).mono ?_
        rintro e w1 ⟨A1, c1, rfl, ho1, hb1⟩
        have hcv1 := run_convB ho1.rdB
        have hb1w : Below w.heap.size w w1 := ((Below.refl _ w).drew).trans hb1
        have HB1 := Lib.hid hb1w
        have HB0 := Lib.hid hb1
        clear ho1 hb1 hb1w
        refine hK.out _ _ HB0.out ?_
        clear hK Kk HB0
        (try simp only [Act.put, List.setIfInBounds_toArray, List.set_cons_zero, List.set_cons_succ])
        refine PlanB.step rfl rfl (fun Kk hK => ?_)
        go_simp
        refine hK.out _ _ (Below.refl _ _) ?_
        clear hK Kk hcv1
        (try simp only [Act.put, List.setIfInBounds_toArray, List.set_cons_zero, List.set_cons_succ])
        (refine PlanB.take (v := ?_) rfl rfl ?_ ?_; rotate_left; (focus (intro W hW; have k2 := HSE.out; (try simp only [List.append_nil] at k2); go_simp; (try with_reducible rfl); done)); (try simp only [Act.put, List.setIfInBounds_toArray, List.set_cons_zero, List.set_cons_succ]))
        simp only [PlanB]
        go_wp2_with fail
        go_ret2
        exact ⟨_, rfl, HoldB.nil _ _, HB1.out⟩
end Go.Proofs.Ytaenlkopjmgniaa
