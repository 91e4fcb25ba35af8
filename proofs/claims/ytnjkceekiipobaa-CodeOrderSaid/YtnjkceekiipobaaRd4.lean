/- What Split answers. -/
import Derived.Test.YtnjkceekiipobaaRd2
import Derived.Test.YtnjkceekiipobaaPlanB
import Derived.StillTailTactics
namespace Go.Proofs.Ytnjkceekiipobaa
open Go.RowKit

set_option maxHeartbeats 4000000 in
set_option maxRecDepth 100000 in
theorem rdend_ok (base p : Nat) (n : Nat) (A : Option Addr) (c : Nat) (used e : Int) (w : World) (hw : Rdr w base p (.slice A n c) used e) (h : e ≠ 0 ∨ ¬ used < (n : Int)) :
    Calls Try.prog 31 #[.pointer (some ⟨p, 0, none⟩)] w fun x w' => x = .returned (.pointer (some ⟨p, 0, none⟩)) ∧ ∃ k, w' = w.drewN k := by
  have k0 := hw.1.cell 0 _ rfl
  have k1 := hw.1.cell 1 _ rfl
  have k2 := hw.1.cell 2 _ rfl
  clear hw
  by_cases he : e = 0
  · subst he
    have h2 : ¬ used < (n : Int) := h.resolve_left (by simp)
    clear h
    go_enter Try.func31, Try.ntmps31
    go_wp2_with fail
    go_quiet (fail)
    go_wp2_with fail
    go_ret
    exact ⟨rfl, nq, rfl⟩
  · clear h
    go_enter Try.func31, Try.ntmps31
    go_wp2_with fail
    go_quiet (fail)
    go_wp2_with fail
    go_ret
    exact ⟨rfl, nq, rfl⟩
set_option maxHeartbeats 4000000 in
set_option maxRecDepth 100000 in
theorem rdend_more (base p : Nat) (n : Nat) (A : Option Addr) (c : Nat) (used : Int) (w : World) (hw : Rdr w base p (.slice A n c) used 0) (h : used < (n : Int)) :
    Calls Try.prog 31 #[.pointer (some ⟨p, 0, none⟩)] w fun x w' => x = .returned (.pointer (some ⟨p, 0, none⟩)) ∧ Rdr w' base p (.slice A n c) 0 2 ∧ Below base w w' := by
  have k0 := hw.1.cell 0 _ rfl
  have k1 := hw.1.cell 1 _ rfl
  have k2 := hw.1.cell 2 _ rfl
  have HW := Lib.hid hw
  clear hw
  go_enter Try.func31, Try.ntmps31
  go_wp2_with fail
  go_quiet (fail)
  go_wp2_with fail
  refine (rfail_any base p _ _ _ 2 (w.drewN nq) HW.out).mono ?_
  rintro x w3 ⟨rfl, rfl⟩
  go_wp2_with fail
  go_ret
  exact ⟨rfl, Rdr.failed (w := w.drewN nq) 2 HW.out, ((Below.drewN' (Below.refl _ _) nq).setCell (p := ⟨p, 1, none⟩) HW.out.2 _).setCell (p := ⟨p, 2, none⟩) HW.out.2 _⟩

/-- ints' cells -/
def cellsI (l : List Int) : List Value := l.map (.int .i64)
theorem Whole.rdI {w : World} {g : Nat} {l : List Int} (h : Whole w g 3 (cellsI l)) : RdI w w.heap.size (.slice (some ⟨g, 0, none⟩) l.length l.length) l := by
  refine ⟨_, _, rfl, Nat.le_refl _, fun i hi => ⟨g, 0, rfl, h.size, fun j u hu => ?_⟩⟩
  match j, hu with
  | 0, hu =>
    simp only [encI, List.getElem?_cons_zero, Option.some.injEq] at hu
    subst hu
    exact h.cell _ _ (by simp [cellsI, hi])
  | j + 1, hu => simp [encI] at hu
theorem wpList_makeI {ops : Array Oper} {rest : List Oper} {o : Oper} {a : Act} {Q : Exit → Act → World → Prop} {w : World} (hg : o.guard = none) (l c : Operand) (hop : o.op = Op.makeSlice 36 l c) (n : Nat) (hl : a.eval l = .int .i64 (n : Int)) (hc : a.eval c = .int .i64 (n : Int)) (hn : n ≤ 35184372088832)
    (hK : ∀ w', Hid (Whole w' w.heap.size 3 (cellsI (List.replicate n 0))) → Hid (Below w.heap.size w w') → Hid (w'.heap.size = w.heap.size + 1) → wpList Try.prog ops Q rest (a.put o.dst (.slice (some ⟨w.heap.size, 0, none⟩) n n)) w') : wpList Try.prog ops Q (o :: rest) a w := by
  obtain ⟨i, hi, hz0, hz1, hz2⟩ := info_parts info_int
  refine wpList_make_row w hg l c 36 hop 3 i _ Try.underlying36 hi hz0 hz1 rfl .i64 .i64 n hl hc (by rw [hz2]; omega) (by omega) (hK _ (Lib.hid ?_) (Lib.hid ((Below.refl _ w).alloc (Nat.le_refl _) _)) (Lib.hid (by simp)))
  unfold Whole
  have e : madeCells #[Value.int .i64 0] n = (cellsI (List.replicate n 0)).toArray := by
    apply Array.toList_inj.1
    rw [toList_madeCells_one]
    simp [cellsI]
  rw [e]
  exact heap_alloc_new w _

/-- where the reading of so many numbers stands behind j of them -/
def SplitAt (l : List UInt8) (k : Nat) (R : List Int × Nat) (base p b : Nat) (v : Value) (j : Nat) (w : World) : Prop :=
  (∃ used acc, used ≤ l.length ∧ Rdr w base p v ((used : Nat) : Int) 0 ∧ acc.length = j ∧ Whole w b 3 (cellsI (acc ++ List.replicate (k - j) 0)) ∧ R = splitGo (k - j) (l.drop used) acc) ∨
  (∃ e : Nat, e ≠ 0 ∧ Rdr w base p v 0 (e : Int) ∧ R = ([], e))

theorem SplitAt.step {l : List UInt8} {k : Nat} {R : List Int × Nat} {base p b : Nat} {v : Value} {j used : Nat} {acc : List Int} {w w' : World} (hj : j < k) (hu : used ≤ l.length) (hw : Rdr w base p v ((used : Nat) : Int) 0) (ha : acc.length = j)
    (hb : Whole w b 3 (cellsI (acc ++ List.replicate (k - j) 0))) (hR : R = splitGo (k - j) (l.drop used) acc) (hne : b ≠ p) (hbq : base ≤ b) (h : NumW p b j used (numAns (l.drop used)) w w') : Below base w w' ∧ SplitAt l k R base p b v (j + 1) w' := by
  obtain ⟨h1, h2⟩ := NumW.kept hw hb hne hbq h
  refine ⟨h1, ?_⟩
  rw [show k - j = (k - (j + 1)) + 1 by omega, splitGo] at hR
  rcases h2 with ⟨h0, hr, hq⟩ | ⟨h0, hr, hq⟩
  · rw [if_neg (by omega)] at hR
    have honce := fun (m u : Nat) (h : numAns (l.drop used) = (m, u, 0)) => numAns_once h
    generalize numAns (l.drop used) = x at *
    obtain ⟨n, u, e⟩ := x
    simp only at h0 hr hq hR
    subst h0
    obtain ⟨hu1, hu9, hu2, s, hs⟩ := honce n u rfl
    have hlu : u ≤ (l.drop used).length := by rw [hs, hu1]; simp
    simp only [List.length_drop] at hlu
    refine .inl ⟨used + u, acc ++ [(n : Int)], by omega, hr, by simp [ha], ?_, by rw [hR, List.drop_drop]⟩
    have e1 : (cellsI (acc ++ List.replicate (k - j) 0)).set j (.int .i64 (n : Int)) = cellsI (acc ++ [(n : Int)] ++ List.replicate (k - (j + 1)) 0) := by
      rw [show k - j = (k - (j + 1)) + 1 by omega, List.replicate_succ]
      subst ha
      simp [cellsI]
    rw [← e1]
    exact hq
  · rw [if_pos h0] at hR
    exact .inr ⟨_, h0, hr, hR⟩

set_option maxHeartbeats 8000000 in
set_option maxRecDepth 100000 in
theorem split_any (l : List UInt8) (v : Value) (count : Int) (w : World) (hv : RdB w w.heap.size v l) (hl : l.length < 4611686018427387904) :
    Calls Try.prog 21 #[v, .int .i64 count] w fun e w' => ∃ v', e = .returned (.tuple #[v', .int .i64 ((splitAns l count).2 : Int)]) ∧ RdI w' w'.heap.size v' (splitAns l count).1 ∧ Below w.heap.size w w' := by
  obtain ⟨A, c, rfl, hc, _⟩ := hv.at
  by_cases hneg : count < 0
  · rw [splitAns, if_pos (.inl hneg)]
    clear hv
    go_enter Try.func21, Try.ntmps21
    go_wp2_with fail
    go_ret2
    exact ⟨_, rfl, Rd.nil _ _, Below.refl _ _⟩
  by_cases hbig : count > 4096
  · rw [splitAns, if_pos (.inr hbig)]
    clear hv
    go_enter Try.func21, Try.ntmps21
    go_wp2_with fail
    go_ret2
    exact ⟨_, rfl, Rd.nil _ _, Below.refl _ _⟩
  obtain ⟨k, rfl⟩ : ∃ k : Nat, count = (k : Int) := ⟨count.toNat, by omega⟩
  have hk : k ≤ 4096 := by omega
  obtain ⟨R, hR⟩ : ∃ R, R = splitAns l (k : Int) := ⟨_, rfl⟩
  rw [← hR]
  rw [splitAns, if_neg (by omega), Int.toNat_natCast] at hR
  clear hneg hbig
  have hk1 : ¬ ((4096 : Int) < (k : Int)) := by omega
  have HR := Lib.hid hR; clear hR
  have HV := Lib.hid hv; clear hv
  obtain ⟨g, hg⟩ : ∃ g, g = w.heap.size := ⟨_, rfl⟩
  have HG := Lib.hid hg; clear hg
  go_enter Try.func21, Try.ntmps21
  go_wp2_with (with_reducible refine wpList_makeI rfl (.tmp 15) (.tmp 15) rfl k rfl rfl (by omega) ?_)
  intro w1 hw1 hb1 hz1
  go_wp2_with fail
  refine (from_any _ _ A l.length c rfl).mono ?_
  rintro e w2 ⟨p, rfl, hr2, hb2, hp⟩
  have hne : w.heap.size ≠ p := by rw [hp, hz1.out]; omega
  have hgp : g ≤ p := by rw [hp, hz1.out, HG.out]; omega
  have hS : SplitAt l k R g p w.heap.size (.slice A l.length c) 0 w2 := .inl ⟨0, [], Nat.zero_le _, ⟨hr2.1, hgp⟩, rfl, hw1.out.below hb2 (by rw [hz1.out]; omega), HR.out⟩
  have hB : Below g w w2 := by rw [HG.out]; exact hb1.out.trans (hb2.mono (by rw [hz1.out]; omega))
  have HS := Lib.hid hS
  have HB := Lib.hid hB
  have HNE := Lib.hid hne
  clear hS hB hne hr2 hb2 hw1 hb1 hz1 hp
  go_wp2_with fail
  go_loopw [7, 8, 21] (fun rv i8 jv wr => ∃ j : Nat, j ≤ k ∧ jv = .int .i64 j ∧ rv = .pointer (some ⟨p, 0, none⟩) ∧ SplitAt l k R g p w.heap.size (.slice A l.length c) j wr ∧ Below g w wr) (fun _ _ jv _ => k - (intOf jv).toNat)
  case atStart => exact ⟨0, Nat.zero_le _, rfl, rfl, HS.out, HB.out⟩
  case round =>
    obtain ⟨j, hj, rfl, rfl, hs, hbw⟩ := hrel
    have HBW := Lib.hid hbw; clear hbw
    by_cases hlt : j < k
    · rcases hs with ⟨used, acc, hu, hr, ha, hq, he⟩ | ⟨e, he0, hr, he⟩
      · have hn := rdnum_any g p l A c used w.heap.size j (.int .i64 0) wr hr (by have := HV.out.below (by have h := HBW.out; rwa [HG.out] at h) (Nat.le_refl _); rw [HG.out]; exact this) hu hl
          (hq.cell j _ (by unfold cellsI; rw [List.getElem?_map, List.getElem?_append_right (by omega), ha, Nat.sub_self, List.getElem?_replicate, if_pos (by omega)]; rfl)) (hq.frozen j) HNE.out (by rw [HG.out]; exact Nat.le_refl _)
        have hst := fun w' h => SplitAt.step (w' := w') hlt hu hr ha hq he HNE.out (by rw [HG.out]; exact Nat.le_refl _) h
        have HN := Lib.hid hn
        have HST := Lib.hid hst
        clear hn hst hr ha hq he hu
        go_wp2_with fail
        refine HN.out.mono ?_
        rintro x w3 ⟨rfl, hnw⟩
        obtain ⟨hb3, hs3⟩ := HST.out w3 hnw
        have HS3 := Lib.hid hs3
        have HB3 := Lib.hid (HBW.out.trans hb3)
        clear hb3 hs3 hnw
        go_wp2_with fail
        go_roundw
        case rel => exact ⟨j + 1, by omega, by go_num, rfl, HS3.out, HB3.out⟩
        case measure => simp [intOf]; omega
      · have hn := rdnum_err g p (.slice A l.length c) (.pointer (some ⟨w.heap.size, j, none⟩)) 0 (e : Int) (by omega) wr hr
        have HN := Lib.hid hn
        have HS3 := Lib.hid (show SplitAt l k R g p w.heap.size (.slice A l.length c) (j + 1) wr from .inr ⟨e, he0, hr, he⟩)
        clear hn hr he he0
        go_wp2_with fail
        refine HN.out.mono ?_
        rintro x w3 ⟨rfl, rfl⟩
        go_wp2_with fail
        go_roundw
        case rel => exact ⟨j + 1, by omega, by go_num, rfl, HS3.out, HBW.out⟩
        case measure => simp [intOf]; omega
    · obtain rfl : j = k := by omega
      rcases hs with ⟨used, acc, hu, hr, ha, hq, he⟩ | ⟨e, he0, hr, he⟩
      · rw [Nat.sub_self, splitGo] at he
        rw [Nat.sub_self, List.replicate_zero, List.append_nil] at hq
        by_cases hmore : used < l.length
        · rw [if_pos (by simp; omega)] at he
          have hn := rdend_more g p l.length A c (used : Int) wr hr (by omega)
          have HN := Lib.hid hn
          have HE := Lib.hid he
          clear hn hr he hq ha
          go_wp2_with fail
          refine HN.out.mono ?_
          rintro x w3 ⟨rfl, hr3, hb3⟩
          have k2 := hr3.1.cell 2 _ rfl
          have hlt3 := hr3.1.size
          have HB3 := Lib.hid (HBW.out.trans hb3)
          clear hr3 hb3
          go_wp2_with fail
          refine wp_region_planB [(true, 0), (true, 1), (true, 2), (true, 3), (true, 4), (true, 5)] (by kernel_rfl) (by kernel_rfl) (fun _ _ d _ _ h => by cases d <;> exact h) ?_
          repeat (refine PlanB.take (v := ?_) rfl rfl ?_ ?_; rotate_left; (focus (intro W hW; have k1 := (hW.cell (p := ⟨p, 2, none⟩) hlt3).trans k2; go_simp; (try with_reducible rfl); done)); (try simp only [Act.put, List.setIfInBounds_toArray, List.set_cons_zero, List.set_cons_succ]))
          simp only [PlanB]
          go_wp2_with fail
          go_ret2
          exact ⟨_, by rw [HE.out]; rfl, by rw [HE.out]; exact Rd.nil _ _, by have h := HB3.out.drew; rwa [HG.out] at h⟩
        · rw [if_neg (by simp; omega)] at he
          have hn := rdend_ok g p l.length A c (used : Int) 0 wr hr (.inr (by omega))
          have k2 := hr.1.cell 2 _ rfl
          have HN := Lib.hid hn
          have HE := Lib.hid he
          have HQ := Lib.hid hq
          have HA := Lib.hid ha
          clear hn hr he hq ha
          go_wp2_with fail
          refine HN.out.mono ?_
          rintro x w3 ⟨rfl, nk, rfl⟩
          go_wp2_with fail
          go_ret2
          exact ⟨.slice (some ⟨w.heap.size, 0, none⟩) j j, by rw [HE.out]; rfl, by rw [HE.out]; have h := HQ.out.rdI; rw [HA.out] at h; exact h, by have h := Below.drewN' HBW.out nk; rwa [HG.out] at h⟩
      · have hn := rdend_ok g p l.length A c 0 (e : Int) wr hr (.inl (by omega))
        have k2 := hr.1.cell 2 _ rfl
        have hlt3 := hr.1.size
        have hez : ¬ ((e : Int) = 0) := by omega
        have HN := Lib.hid hn
        have HE := Lib.hid he
        clear hn hr he he0
        go_wp2_with fail
        refine HN.out.mono ?_
        rintro x w3 ⟨rfl, nk, rfl⟩
        go_wp2_with fail
        refine wp_region_planB [(true, 0), (true, 1), (true, 2), (true, 3), (true, 4), (true, 5)] (by kernel_rfl) (by kernel_rfl) (fun _ _ d _ _ h => by cases d <;> exact h) ?_
        have k3 : (wr.drewN nk).drew.cell? ⟨p, 2, none⟩ = some (.int .i64 (e : Int)) := k2
        repeat (refine PlanB.take (v := ?_) rfl rfl ?_ ?_; rotate_left; (focus (intro W hW; have k1 := (hW.cell (p := ⟨p, 2, none⟩) hlt3).trans k3; go_simp; (try with_reducible rfl); done)); (try simp only [Act.put, List.setIfInBounds_toArray, List.set_cons_zero, List.set_cons_succ]))
        simp only [PlanB]
        go_wp2_with fail
        go_ret2
        exact ⟨_, by rw [HE.out]; rfl, by rw [HE.out]; exact Rd.nil _ _, by have h := (Below.drewN' HBW.out nk).drew; rwa [HG.out] at h⟩
end Go.Proofs.Ytnjkceekiipobaa
