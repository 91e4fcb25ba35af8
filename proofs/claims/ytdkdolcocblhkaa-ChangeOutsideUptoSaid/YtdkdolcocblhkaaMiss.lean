/- The keys of rising spans but for those that pairs have: the program's missing; erase. -/
import Derived.Test.YtdkdolcocblhkaaNamed
import Derived.Test.YtdkdolcocblhkaaRLeast
import Derived.Test.YtdkdolcocblhkaaOneM
import Derived.Test.YtdkdolcocblhkaaWhole
namespace Go.Proofs.Ytdkdolcocblhkaa
open Go.RowKit
attribute [local go_sem] less_eq same_eq le_eq ge_eq gt_eq

theorem spans_all : ∀ {J : List (K × K)}, Normal J → ∀ (h : J ≠ []) (k : K), mem J k → has ((J.head h).1, (J.getLast h).2) k := by
  intro J hJ h k hk
  obtain ⟨s, hs, h1, h2⟩ := hk
  constructor
  · cases J with
    | nil => exact absurd rfl h
    | cons a r =>
      rcases List.mem_cons.1 hs with rfl | hs
      · exact h1
      · have h3 := hJ.2.1 s hs
        have h4 := hJ.1
        simp only [List.head_cons]; grind
  · have h5 := List.dropLast_concat_getLast h
    have hl : s ∈ J.dropLast ∨ s = J.getLast h := by
      rw [← h5] at hs
      simpa using hs
    rcases hl with hl | rfl
    · have hn := hJ
      rw [← h5] at hn
      have h6 := (normal_append.1 hn).2.2 s hl (J.getLast h) (by simp)
      have h7 := hJ.ne _ (List.getLast_mem h)
      simp only; grind
    · exact h2
/-- keys alone, as spans -/
def onesOf (P : List (K × K)) : List (K × K) := P.map fun p => (p.1, p.1 ++ ⟨#[0]⟩)
theorem mem_ones (P : List (K × K)) (k : K) : mem (onesOf P) k ↔ k ∈ P.map (·.1) := by
  unfold mem onesOf has
  constructor
  · rintro ⟨s, hs, h⟩
    obtain ⟨p, hp, rfl⟩ := List.mem_map.1 hs
    exact List.mem_map.2 ⟨p, hp, ((next_only p.1 k).1 h).symm⟩
  · intro h
    obtain ⟨p, hp, rfl⟩ := List.mem_map.1 h
    exact ⟨_, List.mem_map.2 ⟨p, hp, rfl⟩, (next_only p.1 p.1).2 rfl⟩

theorem without_len {s : K × K} {J R : List (K × K)} (h : Fits R (fun k => has s k ∧ ¬ mem J k)) : R.length ≤ J.length + 1 := by
  have h2 : Fits R (fun k => mem [s] k ∧ ¬ mem J k) := h.congr fun k => by simp [mem_cons, mem_nil]
  have h3 := fits_len h.1 (flatK (s :: J)) (fits_ends h2 _ fun t ht => by
    simp only [List.singleton_append] at ht
    exact ⟨flatK_mem.2 ⟨t, ht, .inl rfl⟩, flatK_mem.2 ⟨t, ht, .inr rfl⟩⟩)
  rw [flatK_len, List.length_cons] at h3
  omega

set_option maxHeartbeats 8000000 in
set_option maxRecDepth 100000 in
theorem missing_any (J P : List (K × K)) (hJ : Normal J) (hP : ∀ p ∈ P, p.1.size < 4611686018427387904) (v vp : Value) (w : World) (hv : RdS w w.heap.size v J) (hvp : RdP w w.heap.size vp P) (hl : J.length + P.length ≤ 1999000) :
    Calls Try.prog 40 #[v, vp] w fun e w' => ∃ v' R, e = .returned v' ∧ OwnS w' w.heap.size v' R ∧ Below w.heap.size w w' ∧ Fits R (fun k => mem J k ∧ k ∉ P.map (·.1)) := by
  by_cases hJ0 : J = []
  · subst hJ0
    obtain ⟨A, c, rfl, _⟩ := hv
    go_enter Try.func40, Try.ntmps40
    go_wp2_with fail
    go_ret
    exact ⟨_, [], rfl, OwnS.nil _ _, Below.refl _ _, trivial, fun k => by simp [mem_nil]⟩
  have hlen : 0 < J.length := List.length_pos_iff.2 hJ0
  obtain ⟨A, c, rfl, hc, hi⟩ := id hv
  obtain ⟨b, o, rfl, hbB, k0, _⟩ := hi 0 J[0] (List.getElem?_eq_getElem hlen)
  obtain ⟨b', o', hA', _, _, k1⟩ := hi (J.length - 1) (J[J.length - 1]'(by omega)) (List.getElem?_eq_getElem (by omega))
  injection hA' with hA'
  injection hA' with hb' ho'
  subst hb' ho'
  have hmem := spans_all hJ hJ0
  obtain ⟨a, ha⟩ : ∃ a, a = ((J.head hJ0).1, (J.getLast hJ0).2) := ⟨_, rfl⟩
  have e0 : J[0].1 = a.1 := by rw [ha, List.head_eq_getElem]
  have e1 : (J[J.length - 1]'(by omega)).2 = a.2 := by rw [ha, List.getLast_eq_getElem]
  rw [← ha] at hmem
  rw [e0] at k0
  rw [e1] at k1
  clear e0 e1 ha hi
  obtain ⟨a1, a2⟩ := a
  simp only [Nat.zero_mul, Nat.add_zero] at k0 k1
  obtain ⟨Ap, cp, rfl, hcp, hip⟩ := RdP.at hvp
  obtain ⟨g, hg⟩ : ∃ g, g = w.heap.size := ⟨_, rfl⟩
  rw [← hg] at hbB
  have hcell : ∀ W, Below g w W → W.cell? ⟨b, o, none⟩ = some (.string a1) ∧ W.cell? ⟨b, o + (J.length - 1) * 2 + 1, none⟩ = some (.string a2) := fun W hW =>
    ⟨(hW.cell (p := ⟨b, _, none⟩) hbB).trans k0, (hW.cell (p := ⟨b, _, none⟩) hbB).trans k1⟩
  have HC := Lib.hid hcell; clear hcell k0 k1
  have hi2 : ∀ i (_ : i < P.length), ∃ b o, Ap = some ⟨b, o, none⟩ ∧ ∀ W, Below g w W → W.cell? ⟨b, o + i * 2, none⟩ = some (.string P[i].1) ∧ W.cell? ⟨b, o + i * 2 + 1, none⟩ = some (.string P[i].2) := fun i h => by
    obtain ⟨b, o, hA, hbB, k0, k1⟩ := hip i h
    rw [← hg] at hbB
    exact ⟨b, o, hA, fun W hW => ⟨(hW.cell (p := ⟨b, _, none⟩) hbB).trans k0, (hW.cell (p := ⟨b, _, none⟩) hbB).trans k1⟩⟩
  have HI := Lib.hid hi2; clear hi2 hip
  have HG := Lib.hid hg; clear hg
  have HV := Lib.hid hv; clear hv
  have HM := Lib.hid hmem; clear hmem
  have HPS := Lib.hid hP; clear hP
  have HJN := Lib.hid hJ; clear hJ
  clear hvp hJ0
  have hw1 : IntKind.i64.wrap ((J.length : Int) - 1) = ((J.length - 1 : Nat) : Int) := by rw [IntKind.wrap_i64]; omega
  have hn0 : ¬ ((J.length : Int) = 0) := by omega
  have hb1 : ((J.length - 1 : Nat) : Int) < (J.length : Int) := by omega
  have hb2 : (0 : Int) < (J.length : Int) := by omega
  go_enter Try.func40, Try.ntmps40
  go_wp2_with fail
  refine wp_region_plan (S := fun W => Below g w W) [(true, 0), (true, 1), (true, 2), (true, 3), (true, 4), (true, 5), (true, 6), (true, 7), (true, 8), (true, 9), (true, 10), (true, 11), (false, 12), (false, 13)] (by kernel_rfl) (by kernel_rfl) (fun _ _ d _ _ h => by cases d <;> exact h) ((Below.refl _ _).drew) ?_
  repeat (refine Plan.take (v := ?_) rfl rfl ?_ ?_; rotate_left; (focus (intro W hW; obtain ⟨q0, q1⟩ := HC.out W hW; go_simp; (try with_reducible rfl); done)); (try simp only [Act.put, List.setIfInBounds_toArray, List.set_cons_zero, List.set_cons_succ]))
  refine Plan.step rfl rfl (fun Kk hK => ?_)
  go_simp
  have hgs : g ≤ w.heap.size := by rw [HG.out]; exact Nat.le_refl _
  have hb2' : Below g w (w.alloc (.cells #[.string ⟨#[]⟩, .string ⟨#[]⟩] 48)).drew := ((Below.refl _ _).alloc hgs _).drew
  refine hK.out _ _ hb2' ?_
  clear hK Kk
  (try simp only [Act.put, List.setIfInBounds_toArray, List.set_cons_zero, List.set_cons_succ])
  refine Plan.step rfl rfl (fun Kk hK => ?_)
  have hw2 : Whole (w.alloc (.cells #[.string ⟨#[]⟩, .string ⟨#[]⟩] 48)).drew w.heap.size 48 [.string ⟨#[]⟩, .string ⟨#[]⟩] := (Whole.fresh w 48 [.string ⟨#[]⟩, .string ⟨#[]⟩]).drew
  generalize (w.alloc (.cells #[.string ⟨#[]⟩, .string ⟨#[]⟩] 48)).drew = w2 at hw2 hb2' ⊢
  rw [← HG.out] at hw2
  rw [← HG.out]
  obtain ⟨d0, d1, d2, d3⟩ := put_two w2 g (.string a1) (.string a2) (hw2.cell 0 _ rfl) (hw2.cell 1 _ rfl) (hw2.frozen 0) (hw2.frozen 1)
  have c0 := hw2.cell 0 _ rfl
  have z0 := hw2.frozen 0
  go_simp
  have hw3 := (hw2.put 0 (.string a1)).put 1 (.string a2)
  simp only [List.set_cons_zero, List.set_cons_succ] at hw3
  have hb3 : Below g w ((w2.setCell ⟨g, 0, none⟩ (.string a1)).setCell ⟨g, 1, none⟩ (.string a2)) := (hb2'.setCell (Nat.le_refl _) _).setCell (Nat.le_refl _) _
  generalize (w2.setCell ⟨g, 0, none⟩ (.string a1)).setCell ⟨g, 1, none⟩ (.string a2) = w3 at hw3 hb3 d2 d3 ⊢
  refine hK.out _ _ hb3 ?_
  clear hK Kk d0 d1 c0 z0 hw2 hb2'
  (try simp only [Act.put, List.setIfInBounds_toArray, List.set_cons_zero, List.set_cons_succ])
  simp only [Plan]
  have HW3 := Lib.hid hw3; clear hw3
  have HB3 := Lib.hid hb3; clear hb3
  have hg3 : g < w3.heap.size := HW3.out.size
  have hV3 : RdS w3 w3.heap.size (.slice (some ⟨b, o, none⟩) J.length c) J := (HV.out.below HB3.out (by rw [HG.out]; exact Nat.le_refl _)).mono (by rw [← HG.out]; omega)
  have hwo := without_any (a1, a2) J _ w3 hV3 (by omega)
  have HWO := Lib.hid hwo; clear hwo hV3
  go_wp2_with fail
  refine HWO.out.mono ?_
  rintro e w4 ⟨v4, R1, rfl, ho4, hb4, hn4, hm4, _⟩
  have hF : Fits R1 (fun k => has (a1, a2) k ∧ ¬ mem J k) := ⟨hn4, hm4⟩
  have hRl := without_len hF
  have HF := Lib.hid hF; clear hF hn4 hm4
  have HW4 := Lib.hid (HW3.out.below hb4 hg3)
  have HB4 := Lib.hid (HB3.out.trans (hb4.mono (Nat.le_of_lt hg3)))
  have HO4 := Lib.hid (show OwnS w4 (g + 1) v4 R1 from ho4.lower hg3); clear ho4 hb4
  obtain ⟨A4, c4, rfl⟩ := OwnS.slice HO4.out
  clear d2 d3 HWO HB3 HW3
  go_wp2_with fail
  go_loopw [6, 29] (fun ov iv wr => ∃ (i : Nat) (A' : Option Addr) (c' : Nat) (O : List (K × K)), i ≤ P.length ∧ iv = .int .i64 i ∧ ov = .slice A' O.length c' ∧ Hid (O = R1 ++ onesOf (P.take i)) ∧ Hid (OwnS wr (g + 1) (.slice A' O.length c') O) ∧ Hid (Below g w wr) ∧ Hid (Whole wr g 48 [.string a1, .string a2])) (fun _ iv _ => P.length - (intOf iv).toNat)
  case atStart => exact ⟨0, A4, c4, R1, Nat.zero_le _, rfl, rfl, Lib.hid (by simp [onesOf]), HO4, HB4, HW4⟩
  case round =>
    clear HO4 HB4 HW4
    obtain ⟨i, A', c', O, hil, rfl, rfl, HOE, HO, HB, HW⟩ := hrel
    have hgr : g < wr.heap.size := HW.out.size
    have HOL := Lib.hid (show O.length = R1.length + i by rw [HOE.out]; simp [onesOf]; omega)
    by_cases hlt : i < P.length
    · obtain ⟨b2, o2, rfl, hcl⟩ := HI.out i hlt
      obtain ⟨k0, k1⟩ := hcl wr HB.out
      have hnext : R1 ++ onesOf (P.take (i + 1)) = O ++ [(P[i].1, P[i].1 ++ ⟨#[0]⟩)] := by
        rw [HOE.out]
        unfold onesOf
        rw [List.take_succ_eq_append_getElem hlt, List.map_append, List.append_assoc]; rfl
      have hsz := HPS.out P[i] (List.getElem_mem hlt)
      clear hcl
      generalize P[i] = z at k0 k1 hnext hsz
      obtain ⟨zk, zv⟩ := z
      simp only at k0 k1 hnext hsz
      have hsg := fun W => single_any zk W hsz
      have HSG := Lib.hid hsg; clear hsg
      have HN := Lib.hid hnext; clear hnext
      go_wp2_with fail
      refine (HSG.out _).mono ?_
      rintro e w5 ⟨rfl, hb5⟩
      have HB5 := Lib.hid (show Below g w w5 from (HB.out.alloc (Nat.le_of_lt hgr) _).trans (hb5.mono (by rw [World.size_alloc]; omega)))
      have HO5 := Lib.hid (show OwnS w5 (g + 1) _ _ from (HO.out.alloc _).below hb5 (Nat.le_refl _))
      have HW5 := Lib.hid ((HW.out.alloc (.cells #[.string zk, .string zv] 57)).below hb5 (by rw [World.size_alloc]; omega))
      have hg5 : g < w5.heap.size := HW5.out.size
      clear hb5 k0 k1
      go_wp2_with (at_builtin; go_must (refine wpList_addTg rfl _ _ rfl (g + 1) (.slice A' O.length c') O rfl ?f1 (w5.heap.size + 1) _ [(zk, zk ++ ⟨#[0]⟩)] rfl (RdS.one w5 (zk, zk ++ ⟨#[0]⟩)) (by have := HOL.out; simp; omega) ?f2 ?f4))
      case f1 => exact HO5.out.alloc _
      case f2 => simp; omega
      intro A2 c2 w6 ho6 hg6
      have HB6 := Lib.hid (show Below g w w6 from Below.grown (HB5.out.alloc (Nat.le_of_lt hg5) _) hg6.out (by simp; omega) (fun k hk => by have := (HO5.out.lt k hk).1; omega))
      have HW6 := Lib.hid ((HW5.out.alloc (.cells #[.string zk, .string (zk ++ ⟨#[0]⟩)] 48)).grown hg6.out (fun e => by have := (HO5.out.lt g e.symm).1; omega))
      go_wp2_with fail
      go_roundw
      case rel => exact ⟨i + 1, A2, c2, O ++ [(zk, zk ++ ⟨#[0]⟩)], by omega, by go_num, by simp, Lib.hid HN.out.symm, by rw [show (O ++ [(zk, zk ++ ⟨#[0]⟩)]).length = O.length + 1 by simp]; exact ho6, HB6, HW6⟩
      case measure => simp [intOf]; omega
    · obtain rfl : i = P.length := by omega
      have hOE := HOE.out
      rw [List.take_length] at hOE
      have hrd : RdS wr wr.heap.size (.slice A' O.length c') O := HO.out.rd
      have hwo := without_any (a1, a2) O _ wr hrd (by have := HOL.out; omega)
      have HWO := Lib.hid hwo; clear hwo hrd
      have c0 := HW.out.cell 0 _ rfl
      have c1 := HW.out.cell 1 _ rfl
      have HOE2 := Lib.hid hOE; clear hOE
      go_wp2_with fail
      refine HWO.out.mono ?_
      rintro e w7 ⟨v7, R7, rfl, ho7, hb7, hn7, hm7, _⟩
      have HO7 := Lib.hid ho7; clear ho7
      have HB7 := Lib.hid hb7; clear hb7
      have HN7 := Lib.hid hn7; clear hn7
      have HM7 := Lib.hid hm7; clear hm7
      clear c0 c1
      go_wp2_with fail
      refine bodyPost_ret (v := v7) ?_ rfl ⟨_, R7, rfl, HO7.out.lower (by rw [← HG.out]; omega), by rw [← HG.out]; exact HB.out.trans (HB7.out.mono (Nat.le_of_lt hgr)), HN7.out, fun k => ?_⟩
      · simp [results, Try.results40, go_sem]
      · rw [HM7.out k, HOE2.out, mem_append, mem_ones, HF.out.2 k]
        have h8 := HM.out k
        constructor
        · rintro ⟨q1, q2⟩
          refine ⟨Classical.byContradiction fun q3 => q2 (.inl ⟨q1, q3⟩), fun q3 => q2 (.inr q3)⟩
        · rintro ⟨q1, q2⟩
          exact ⟨h8 q1, fun q3 => q3.elim (fun q4 => q4.2 q1) q2⟩

end Go.Proofs.Ytdkdolcocblhkaa
