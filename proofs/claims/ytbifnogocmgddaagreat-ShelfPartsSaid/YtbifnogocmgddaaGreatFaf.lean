/- Pairs behind changes: slices.Clone, after. What Apply answers; how many bytes changes weigh. The program's Past as a state of the heap; New, Ends, known, none; names, left. slices.Backward over deeds; upTo: what was done up to a version. -/
import Derived.Test.YtbifnogocmgddaaGreatFad
import Derived.Test.YtbifnogocmgddaaGreatFae
import Derived.Test.YtbifnogocmgddaaGreatFac
import Derived.Test.YtbifnogocmgddaaGreatFab
import Derived.Lib.SliceRun
import Derived.RangeFuncNested
import Derived.RangeFuncBound
import Derived.RangeFuncCalls
import Derived.RangeFuncLeaves
import Derived.Shelf.Abstract
import Derived.Shelf.RegionOpen
import Derived.OwnWalkIn
import Derived.TacticsInMore
import Derived.LoopNIn
import Derived.LoopIn
namespace Go.Proofs.YtbifnogocmgddaaGreat
open Go.RowKit
attribute [local go_sem] less_eq same_eq le_eq ge_eq gt_eq

set_option maxHeartbeats 2000000 in
set_option maxRecDepth 100000 in
theorem cloneP_any (l : List (K × K)) (v : Value) (w : World) (hv : RdP w w.heap.size v l) (hlen : l.length ≤ 7036874416000) :
    Calls Tryz.prog 102 #[v] w fun e w' => ∃ A' c', e = .returned (.slice A' l.length c') ∧ OwnP w' w.heap.size (.slice A' l.length c') l ∧ Below w.heap.size w w' := by
  obtain ⟨A, c, rfl, hc, hi⟩ := id hv
  have q22 : ∀ (w : World) (a : Option Addr) (n c n' c' : Nat), (binOp .eql 37 (.slice a n c) (.slice none n' c')).run Tryz.prog w = .ok (.bool a.isNone) w := fun w a n c n' c' => Lib.run_eql_slice_nil w _ _ a n c n' c' Tryz.underlying37
  cases A with
  | none =>
    obtain rfl : l = [] := by
      cases l with
      | nil => rfl
      | cons x r => obtain ⟨b, o, h, _⟩ := hi 0 (by simp); cases h
    go_enter Tryz.func102, Tryz.ntmps102
    go_wp2_with fail
    go_ret
    exact ⟨none, 0, rfl, Own.nil _ _, Below.refl _ _⟩
  | some a =>
    have HV := Lib.hid hv; clear hv hi
    have hown := Own.empty (enc := cellsS) (k := 2) (e := 69) w w.heap.size (Nat.le_refl _)
    have HO := Lib.hid hown; clear hown
    obtain ⟨i0, hi, hz0, hz1, hz2⟩ := info_pairE
    go_enter Tryz.func102, Tryz.ntmps102
    go_wp2_with (at_builtin; go_must (refine BigFrame.wpList_want rfl fun K2 hK => ?_; refine wp_addAny (enc := cellsS) (k := 2) 37 69 32 i0 _ Tryz.underlying37 hi hz0 hz1 hz2 rfl (by decide) cellsS_len cellsS_one _ _ rfl w.heap.size _ [] rfl HO.out (w.heap.size + 1) _ l rfl ?c0 (by unfold maxLen; simp; omega) (by simp; omega) (by simp) ?_))
    case c0 => exact (HV.out.below ((Below.refl _ w).alloc (Nat.le_refl _) _) (Nat.le_refl _)).mono (Nat.le_succ _)
    intro A' c' w1 h1 h2
    have HO1 := Lib.hid h1; clear h1
    have HB1 := Lib.hid (HO.out.grown ((Below.refl w.heap.size w).alloc (Nat.le_refl _) _) h2 (Nat.le_refl _) (by simp)); clear h2
    refine hK _ _ ?_
    clear hK
    go_wp2_with fail
    go_ret
    exact ⟨A', c', rfl, HO1.out, HB1.out⟩

theorem OneAt.below {w w' : World} {v vp : Value} {p : List (K × K)} (h : OneAt w v p vp) (hb : Below w.heap.size w w') : OneAt w' v p vp := by
  rcases h with h | ⟨x, vb, h1, h2, h3, h4⟩
  · exact .inl h
  · exact .inr ⟨x, vb, h1, h2, h3.below hb h3.size, h4⟩
theorem applyP_take_succ (l : List (K × K)) (cs : List Chg) (j : Nat) (h : j < cs.length) : applyP l (cs.take (j + 1)) = oneP (applyP l (cs.take j)) cs[j] := by
  unfold applyP
  rw [List.take_succ_eq_append_getElem h, List.foldl_append]
  rfl
theorem applyP_length (l : List (K × K)) : ∀ cs : List Chg, (applyP l cs).length ≤ l.length + cs.length
  | [] => by simp [applyP]
  | c :: r => by
    have h1 := oneP_len l c
    have h2 := applyP_length (oneP l c) r
    simp only [applyP, List.foldl_cons, List.length_cons] at h2 ⊢
    omega

set_option maxHeartbeats 8000000 in
set_option maxRecDepth 100000 in
theorem after_any (l : List (K × K)) (cs : List Chg) (hr : Rises l) (hcs : ∀ c ∈ cs, checkAns c = 0) (hl : l.length + cs.length ≤ 7036874416000) (v vc : Value) (w : World) (hv : RdP w w.heap.size v l) (hvc : RdC w w.heap.size vc cs) :
    Calls Tryz.prog 91 #[v, vc] w fun e w' => ∃ A' c', e = .returned (.slice A' (applyP l cs).length c') ∧ OwnP w' w.heap.size (.slice A' (applyP l cs).length c') (applyP l cs) ∧ Below w.heap.size w w' := by
  have hclone := cloneP_any l v w hv (by omega)
  obtain ⟨A, c, rfl, hc, hi⟩ := hvc.at
  obtain ⟨g, hg⟩ : ∃ g, g = w.heap.size := ⟨_, rfl⟩
  rw [← hg] at hclone
  have hi2 : ∀ i (_ : i < cs.length), ∃ b o, A = some ⟨b, o, none⟩ ∧ ∀ W, Below g w W → W.cell? ⟨b, o + i * 3, none⟩ = some (.int .i64 cs[i].kind) ∧ W.cell? ⟨b, o + i * 3 + 1, none⟩ = some (.string cs[i].key) ∧ W.cell? ⟨b, o + i * 3 + 2, none⟩ = some (.string cs[i].val) := fun i h => by
    obtain ⟨b, o, hA, hbB, k0, k1, k2⟩ := hi i h
    rw [← hg] at hbB
    exact ⟨b, o, hA, fun W hW => ⟨(hW.cell (p := ⟨b, _, none⟩) hbB).trans k0, (hW.cell (p := ⟨b, _, none⟩) hbB).trans k1, (hW.cell (p := ⟨b, _, none⟩) hbB).trans k2⟩⟩
  have HG := Lib.hid hg; clear hg
  have HI := Lib.hid hi2; clear hi2 hi
  have HCL := Lib.hid hclone; clear hclone
  have HR := Lib.hid hr; clear hr
  have HCS := Lib.hid hcs; clear hcs
  clear hv hvc
  go_enter Tryz.func91, Tryz.ntmps91
  go_wp2_with fail
  refine HCL.out.mono ?_
  rintro e w1 ⟨A1, c1, rfl, ho1, hb1⟩
  have HO1 := Lib.hid ho1; clear ho1
  have HB1 := Lib.hid hb1; clear hb1
  go_wp2_with fail
  go_loopw [5, 14] (fun ov iv wr => ∃ (j : Nat) (A' : Option Addr) (c' : Nat) (L : List (K × K)), j ≤ cs.length ∧ iv = .int .i64 j ∧ ov = .slice A' L.length c' ∧ Hid (L = applyP l (cs.take j)) ∧ Hid (OwnP wr g (.slice A' L.length c') L) ∧ Hid (Below g w wr)) (fun _ iv _ => cs.length - (intOf iv).toNat)
  case atStart => exact ⟨0, A1, c1, l, Nat.zero_le _, rfl, rfl, Lib.hid rfl, HO1, HB1⟩
  case round =>
    obtain ⟨j, A', c', L, hj, rfl, rfl, HL, HO, HB⟩ := hrel
    by_cases hlt : j < cs.length
    · obtain ⟨b, o, rfl, hcell⟩ := HI.out j hlt
      obtain ⟨k0, k1, k2⟩ := hcell wr HB.out
      have hck := HCS.out cs[j] (List.getElem_mem hlt)
      have hsz := check_size hck
      have hst : oneP L cs[j] = applyP l (cs.take (j + 1)) := by rw [applyP_take_succ l cs j hlt, ← HL.out]
      have hrs : Rises L := by rw [HL.out]; exact rises_applyP HR.out _
      have hlen : L.length + 1 ≤ 7036874417000 := by
        have := applyP_length l (cs.take j)
        rw [← HL.out, List.length_take] at this
        omega
      have hrep := oneP_replace hrs hck
      rw [hst] at hrep
      have hple := pos_mono (l := L) (cspan_le hck)
      have hpl := pos_le L (cspan cs[j]).2
      clear hst hcell
      generalize cs[j] = z at k0 k1 k2 hck hsz hrep hple hpl
      have hrch := fun W => reach_any z W (by omega)
      generalize cspan z = s at hrch hrep hple hpl
      obtain ⟨kz, xz, yz⟩ := z
      unfold inOf at hrep
      unfold cval spv at hrch
      simp only at k0 k1 k2 hrep hrch
      obtain ⟨s1, s2⟩ := s
      simp only at hrep hple hpl hrch
      have HREP := Lib.hid hrep; clear hrep
      have HRC := Lib.hid hrch; clear hrch
      have HRS := Lib.hid hrs; clear hrs
      clear hck hsz
      have hplc := fun k W (h : RdP W W.heap.size (.slice A' L.length c') L) => place_any L HRS.out k _ W h (by omega)
      have HPL := Lib.hid hplc; clear hplc
      go_wp2_with fail
      refine (HRC.out _).mono ?_
      rintro e w2 ⟨rfl, hb2⟩
      have hgr : g ≤ wr.heap.size := Nat.le_trans (by rw [HG.out]; exact Nat.le_refl _) HB.out.size
      have hw2 : Whole w2 wr.heap.size 67 [.int .i64 kz, .string xz, .string yz] := (Whole.fresh wr 67 [.int .i64 kz, .string xz, .string yz]).below hb2 (by simp)
      have hlt2 : wr.heap.size < w2.heap.size := hw2.size
      have HO2 := Lib.hid ((HO.out.alloc (.cells #[.int .i64 kz, .string xz, .string yz] 67)).below hb2 (Nat.le_refl _))
      have HB2 := Lib.hid ((HB.out.alloc hgr _).trans (hb2.mono (by rw [World.size_alloc]; omega)))
      have m0 := hw2.cell 0 _ rfl
      have m1 := hw2.cell 1 _ rfl
      have m2 := hw2.cell 2 _ rfl
      have hg2 : g ≤ w2.heap.size := by omega
      clear hb2 hw2 k0 k1 k2
      by_cases hk : kz = 1
      · subst hk
        obtain ⟨P, hP⟩ : ∃ P, P = [(xz, yz)] := ⟨_, rfl⟩
        obtain ⟨L', hL'⟩ : ∃ L', L' = L.take (pos L s1) ++ P ++ L.drop (pos L s2) := ⟨_, rfl⟩
        have hrp := fun W vp h1 h2 h3 => sreplace_any L (pos L s1) (pos L s2) hple hpl P (.slice A' L.length c') vp W g h1 h2 h3 hlen
        simp only [← hL'] at hrp
        have HRP := Lib.hid hrp; clear hrp
        have hLP : L' = (L.take (pos L s1) ++ if (1 : Int) = 1 then [(xz, yz)] else []) ++ L.drop (pos L s2) := by rw [hL', hP, if_pos rfl]
        have HLP := Lib.hid hLP; clear hLP hL'
        go_wp2_with fail
        obtain ⟨w3, hw3⟩ : ∃ w3, w3 = (w2.alloc (.cells #[.string s1, .string s2] 31)).alloc (.cells #[.string xz, .string yz] 69) := ⟨_, rfl⟩
        rw [← hw3]
        have hg3 : Whole w3 w2.heap.size 31 [.string s1, .string s2] := by rw [hw3]; exact (Whole.fresh w2 31 [.string s1, .string s2]).alloc _
        have ho3 : OwnP w3 g (.slice A' L.length c') L := by rw [hw3]; exact (HO2.out.alloc _).alloc _
        have hb3 : Below g w w3 := by rw [hw3]; exact (HB2.out.alloc hg2 _).alloc (by rw [World.size_alloc]; omega) _
        have hv3 : OneAt w3 (.slice A' L.length c') P (.slice (some ⟨w2.heap.size + 1, 0, none⟩) 1 1) := .inr ⟨(xz, yz), w2.heap.size + 1, hP, rfl, by
          rw [hw3]
          have h := Whole.fresh (w2.alloc (.cells #[.string s1, .string s2] 31)) 69 [.string xz, .string yz]
          rw [World.size_alloc] at h
          exact h, fun h => by have h2 := (HO2.out.low h.symm).2; omega⟩
        have HG8 := Lib.hid hg3; clear hg3
        have HO3 := Lib.hid ho3; clear ho3
        have HB3 := Lib.hid hb3; clear hb3
        have HV3 := Lib.hid hv3; clear hv3
        clear hw3 m0 m1 m2 hP HO2 HB2
        obtain ⟨vp, hvp⟩ : ∃ vp, vp = Value.slice (some ⟨w2.heap.size + 1, 0, none⟩) 1 1 := ⟨_, rfl⟩
        rw [← hvp] at HV3
        obtain ⟨G8, hG8⟩ : ∃ G8, G8 = w2.heap.size := ⟨_, rfl⟩
        rw [← hG8] at HG8 hvp ⊢
        clear hG8
        rw [← hvp]
        clear hvp
        refine wp_region_plan (S := fun W => Below g w W ∧ Whole W G8 31 [.string s1, .string s2]) [(true, 0), (true, 1), (true, 2), (true, 3), (true, 5), (true, 6), (true, 7), (true, 9), (false, 4), (false, 8), (false, 10), (true, 11)] (by kernel_rfl) (by kernel_rfl) (fun _ _ d _ _ h => by cases d <;> exact h) ⟨HB3.out.drew, HG8.out.drew⟩ ?_
        have HSP := Lib.hid (fun W (hW : Below g w W ∧ Whole W G8 31 [.string s1, .string s2]) => (⟨hW.2.cell 0 _ rfl, hW.2.cell 1 _ rfl⟩ : W.cell? ⟨G8, 0, none⟩ = some (.string s1) ∧ W.cell? ⟨G8, 1, none⟩ = some (.string s2)))
        repeat (refine Plan.take (v := ?_) rfl rfl ?_ ?_; rotate_left; (focus (intro W hW; obtain ⟨q0, q1⟩ := HSP.out W hW; go_simp; (try with_reducible rfl); done)); (try simp only [Act.put, List.setIfInBounds_toArray, List.set_cons_zero, List.set_cons_succ]))
        have hO4 : OwnP w3.drew g (.slice A' L.length c') L := HO3.out.drew
        have hV4 : OneAt w3.drew (.slice A' L.length c') P vp := HV3.out
        have hG4 := HG8.out.drew
        have hB4 := HB3.out.drew
        generalize w3.drew = w4 at hO4 hV4 hG4 hB4 ⊢
        have HO4 := Lib.hid hO4; clear hO4
        have HV4 := Lib.hid hV4; clear hV4
        have HG4 := Lib.hid hG4; clear hG4
        have HB4 := Lib.hid hB4; clear hB4
        clear HO3 HV3 HG8 HB3
        refine Plan.step rfl rfl (fun Kk hK => ?_)
        go_simp
        refine (HPL.out s1 w4 (HO4.out.rd cellsS_len)).mono ?_
        rintro e w5 ⟨rfl, hb5⟩
        have HG5 := Lib.hid (HG4.out.below hb5 HG4.out.size)
        have HB5 := Lib.hid (HB4.out.trans (hb5.mono (Nat.le_trans (by rw [HG.out]; exact Nat.le_refl _) HB4.out.size)))
        refine hK.out _ _ ⟨HB5.out, HG5.out⟩ ?_
        clear hK Kk
        have HO5 := Lib.hid (HO4.out.below hb5 (Nat.le_refl _))
        have HV5 := Lib.hid (HV4.out.below hb5)
        clear hb5 HO4 HV4 HG4 HB4
        (try simp only [Act.put, List.setIfInBounds_toArray, List.set_cons_zero, List.set_cons_succ])
        refine Plan.step rfl rfl (fun Kk hK => ?_)
        go_simp
        refine (HPL.out s2 w5 (HO5.out.rd cellsS_len)).mono ?_
        rintro e w6 ⟨rfl, hb6⟩
        have HG6 := Lib.hid (HG5.out.below hb6 HG5.out.size)
        have HB6 := Lib.hid (HB5.out.trans (hb6.mono (Nat.le_trans (by rw [HG.out]; exact Nat.le_refl _) HB5.out.size)))
        refine hK.out _ _ ⟨HB6.out, HG6.out⟩ ?_
        clear hK Kk
        have HO6 := Lib.hid (HO5.out.below hb6 (Nat.le_refl _))
        have HV6 := Lib.hid (HV5.out.below hb6)
        clear hb6 HO5 HV5 HG5 HB5
        (try simp only [Act.put, List.setIfInBounds_toArray, List.set_cons_zero, List.set_cons_succ])
        refine Plan.step rfl rfl (fun Kk hK => ?_)
        go_simp
        have hg6 : g ≤ w6.heap.size := Nat.le_trans (by rw [HG.out]; exact Nat.le_refl _) HB6.out.size
        refine (HRP.out w6 vp HO6.out hg6 HV6.out).mono ?_
        rintro e w7 ⟨A7, c7, rfl, ho7, hg7⟩
        have HG7 := Lib.hid (HG6.out.grown hg7 (HO6.out.apart HG6.out (by decide)))
        have HB7 := Lib.hid (HO6.out.grown HB6.out hg7 (Nat.le_refl _) hg6)
        refine hK.out _ _ ⟨HB7.out, HG7.out⟩ ?_
        clear hK Kk
        have HO7 := Lib.hid ho7; clear ho7 hg7 hg6
        clear HO6 HV6 HG6 HB6
        (try simp only [Act.put, List.setIfInBounds_toArray, List.set_cons_zero, List.set_cons_succ])
        (refine Plan.take (v := ?_) rfl rfl ?_ ?_; rotate_left; (focus (intro W hW; obtain ⟨q0, q1⟩ := HSP.out W hW; go_simp; (try with_reducible rfl); done)); (try simp only [Act.put, List.setIfInBounds_toArray, List.set_cons_zero, List.set_cons_succ]))
        simp only [Plan]
        go_wp2_with fail
        go_roundw
        case rel => exact ⟨j + 1, A7, c7, L', by omega, by go_num, rfl, Lib.hid (by rw [HREP.out, HLP.out]), HO7, HB7⟩
        case measure => simp [intOf]; omega
      · obtain ⟨P, hP⟩ : ∃ P : List (K × K), P = [] := ⟨_, rfl⟩
        obtain ⟨L', hL'⟩ : ∃ L', L' = L.take (pos L s1) ++ P ++ L.drop (pos L s2) := ⟨_, rfl⟩
        have hrp := fun W vp h1 h2 h3 => sreplace_any L (pos L s1) (pos L s2) hple hpl P (.slice A' L.length c') vp W g h1 h2 h3 hlen
        simp only [← hL'] at hrp
        have HRP := Lib.hid hrp; clear hrp
        have hLP : L' = (L.take (pos L s1) ++ if kz = 1 then [(xz, yz)] else []) ++ L.drop (pos L s2) := by rw [hL', hP, if_neg hk]
        have HLP := Lib.hid hLP; clear hLP hL'
        go_wp2_with fail
        obtain ⟨w3, hw3⟩ : ∃ w3, w3 = w2.alloc (.cells #[.string s1, .string s2] 31) := ⟨_, rfl⟩
        rw [← hw3]
        have hg3 : Whole w3 w2.heap.size 31 [.string s1, .string s2] := by rw [hw3]; exact (Whole.fresh w2 31 [.string s1, .string s2])
        have ho3 : OwnP w3 g (.slice A' L.length c') L := by rw [hw3]; exact HO2.out.alloc _
        have hb3 : Below g w w3 := by rw [hw3]; exact HB2.out.alloc hg2 _
        have hv3 : OneAt w3 (.slice A' L.length c') P (.slice none 0 0) := .inl ⟨hP, rfl⟩
        have HG8 := Lib.hid hg3; clear hg3
        have HO3 := Lib.hid ho3; clear ho3
        have HB3 := Lib.hid hb3; clear hb3
        have HV3 := Lib.hid hv3; clear hv3
        clear hw3 m0 m1 m2 hP HO2 HB2
        obtain ⟨vp, hvp⟩ : ∃ vp, vp = Value.slice none 0 0 := ⟨_, rfl⟩
        rw [← hvp] at HV3
        obtain ⟨G8, hG8⟩ : ∃ G8, G8 = w2.heap.size := ⟨_, rfl⟩
        rw [← hG8] at HG8 ⊢
        clear hG8
        refine wp_region_plan (S := fun W => Below g w W ∧ Whole W G8 31 [.string s1, .string s2]) [(true, 0), (true, 1), (true, 2), (true, 3), (true, 5), (true, 6), (true, 7), (true, 9), (false, 4), (false, 8), (false, 10), (true, 11)] (by kernel_rfl) (by kernel_rfl) (fun _ _ d _ _ h => by cases d <;> exact h) ⟨HB3.out.drew, HG8.out.drew⟩ ?_
        have HSP := Lib.hid (fun W (hW : Below g w W ∧ Whole W G8 31 [.string s1, .string s2]) => (⟨hW.2.cell 0 _ rfl, hW.2.cell 1 _ rfl⟩ : W.cell? ⟨G8, 0, none⟩ = some (.string s1) ∧ W.cell? ⟨G8, 1, none⟩ = some (.string s2)))
        repeat (refine Plan.take (v := ?_) rfl rfl ?_ ?_; rotate_left; (focus (intro W hW; obtain ⟨q0, q1⟩ := HSP.out W hW; go_simp; (try with_reducible rfl); done)); (try simp only [Act.put, List.setIfInBounds_toArray, List.set_cons_zero, List.set_cons_succ]))
        have hO4 : OwnP w3.drew g (.slice A' L.length c') L := HO3.out.drew
        have hV4 : OneAt w3.drew (.slice A' L.length c') P vp := HV3.out
        have hG4 := HG8.out.drew
        have hB4 := HB3.out.drew
        generalize w3.drew = w4 at hO4 hV4 hG4 hB4 ⊢
        have HO4 := Lib.hid hO4; clear hO4
        have HV4 := Lib.hid hV4; clear hV4
        have HG4 := Lib.hid hG4; clear hG4
        have HB4 := Lib.hid hB4; clear hB4
        clear HO3 HV3 HG8 HB3
        refine Plan.step rfl rfl (fun Kk hK => ?_)
        go_simp
        refine (HPL.out s1 w4 (HO4.out.rd cellsS_len)).mono ?_
        rintro e w5 ⟨rfl, hb5⟩
        have HG5 := Lib.hid (HG4.out.below hb5 HG4.out.size)
        have HB5 := Lib.hid (HB4.out.trans (hb5.mono (Nat.le_trans (by rw [HG.out]; exact Nat.le_refl _) HB4.out.size)))
        refine hK.out _ _ ⟨HB5.out, HG5.out⟩ ?_
        clear hK Kk
        have HO5 := Lib.hid (HO4.out.below hb5 (Nat.le_refl _))
        have HV5 := Lib.hid (HV4.out.below hb5)
        clear hb5 HO4 HV4 HG4 HB4
        (try simp only [Act.put, List.setIfInBounds_toArray, List.set_cons_zero, List.set_cons_succ])
        refine Plan.step rfl rfl (fun Kk hK => ?_)
        go_simp
        refine (HPL.out s2 w5 (HO5.out.rd cellsS_len)).mono ?_
        rintro e w6 ⟨rfl, hb6⟩
        have HG6 := Lib.hid (HG5.out.below hb6 HG5.out.size)
        have HB6 := Lib.hid (HB5.out.trans (hb6.mono (Nat.le_trans (by rw [HG.out]; exact Nat.le_refl _) HB5.out.size)))
        refine hK.out _ _ ⟨HB6.out, HG6.out⟩ ?_
        clear hK Kk
        have HO6 := Lib.hid (HO5.out.below hb6 (Nat.le_refl _))
        have HV6 := Lib.hid (HV5.out.below hb6)
        clear hb6 HO5 HV5 HG5 HB5
        (try simp only [Act.put, List.setIfInBounds_toArray, List.set_cons_zero, List.set_cons_succ])
        refine Plan.step rfl rfl (fun Kk hK => ?_)
        go_simp
        have hg6 : g ≤ w6.heap.size := Nat.le_trans (by rw [HG.out]; exact Nat.le_refl _) HB6.out.size
        refine (HRP.out w6 _ HO6.out hg6 (hvp ▸ HV6.out)).mono ?_
        rintro e w7 ⟨A7, c7, rfl, ho7, hg7⟩
        have HG7 := Lib.hid (HG6.out.grown hg7 (HO6.out.apart HG6.out (by decide)))
        have HB7 := Lib.hid (HO6.out.grown HB6.out hg7 (Nat.le_refl _) hg6)
        refine hK.out _ _ ⟨HB7.out, HG7.out⟩ ?_
        clear hK Kk
        have HO7 := Lib.hid ho7; clear ho7 hg7 hg6
        clear HO6 HV6 HG6 HB6
        (try simp only [Act.put, List.setIfInBounds_toArray, List.set_cons_zero, List.set_cons_succ])
        (refine Plan.take (v := ?_) rfl rfl ?_ ?_; rotate_left; (focus (intro W hW; obtain ⟨q0, q1⟩ := HSP.out W hW; go_simp; (try with_reducible rfl); done)); (try simp only [Act.put, List.setIfInBounds_toArray, List.set_cons_zero, List.set_cons_succ]))
        simp only [Plan]
        go_wp2_with fail
        go_roundw
        case rel => exact ⟨j + 1, A7, c7, L', by omega, by go_num, rfl, Lib.hid (by rw [HREP.out, HLP.out]), HO7, HB7⟩
        case measure => simp [intOf]; omega
    · obtain rfl : j = cs.length := by omega
      rw [List.take_length] at HL
      have hO := HO.out
      rw [HL.out] at hO
      have HO2 := Lib.hid hO; clear hO
      go_wp2_with fail
      go_ret
      refine ⟨A', c', by rw [← HL.out]; rfl, by have h := HO2.out; rwa [HG.out] at h, by have h := HB.out; rwa [HG.out] at h⟩
end Go.Proofs.YtbifnogocmgddaaGreat
namespace Go.Proofs.YtbifnogocmgddaaGreat
open Go.RowKit
attribute [local go_sem] less_eq same_eq le_eq ge_eq gt_eq

/-- what Apply answers: an error, or pairs of the call's own -/
def ApplyIs (w : World) (base : Nat) (v' : Value) (q e : Int) (sb : Bool) (L : List (K × K)) : Prop :=
  (q = e ∧ q ≠ 0 ∧ v' = .slice none 0 0) ∨ (e = 0 ∧ sb = false ∧ q = 2 ∧ v' = .slice none 0 0) ∨ (e = 0 ∧ sb = true ∧ q = 0 ∧ OwnP w base v' L)
theorem ApplyIs.err {w : World} {base : Nat} {q : Int} {sb : Bool} {L : List (K × K)} (h : q ≠ 0) : ApplyIs w base (.slice none 0 0) q q sb L := .inl ⟨rfl, h, rfl⟩
theorem ApplyIs.form {w : World} {base : Nat} {L : List (K × K)} : ApplyIs w base (.slice none 0 0) 2 0 false L := .inr (.inl ⟨rfl, rfl, rfl, rfl⟩)
theorem ApplyIs.ok {w : World} {base : Nat} {v' : Value} {L : List (K × K)} (h : OwnP w base v' L) : ApplyIs w base v' 0 0 true L := .inr (.inr ⟨rfl, rfl, rfl, h⟩)

set_option maxHeartbeats 4000000 in
set_option maxRecDepth 100000 in
theorem papply_any (l : List (K × K)) (cs : List Chg) (hs : ∀ p ∈ l, p.1.size < 4611686018427387904 ∧ p.2.size < 4611686018427387904) (hcs : ∀ c ∈ cs, smallC c) (v vc : Value) (w : World) (hv : RdP w w.heap.size v l) (hvc : RdC w w.heap.size vc cs) (hl : l.length + cs.length ≤ 7036874416000) :
    Calls Tryz.prog 70 #[v, vc] w fun e w' => ∃ v' q, e = .returned (.tuple #[v', .int .i64 q]) ∧ Below w.heap.size w w' ∧ ApplyIs w' w.heap.size v' q (allAns cs) (soundP l) (applyP l cs) := by
  have hfirst := first_any cs hcs vc w hvc (by omega)
  have hsound := fun W (h : RdP W W.heap.size v l) => psound_any l hs v W h (by omega)
  have haft := fun (h1 : Rises l) (h2 : ∀ c ∈ cs, checkAns c = 0) W (h3 : RdP W W.heap.size v l) (h4 : RdC W W.heap.size vc cs) => after_any l cs h1 h2 hl v vc W h3 h4
  have hsp := @soundP_spec l
  generalize soundP l = sb at hsound hsp ⊢
  have HSP := Lib.hid hsp; clear hsp
  have HF := Lib.hid hfirst; clear hfirst
  have HSD := Lib.hid hsound; clear hsound
  have HAF := Lib.hid haft; clear haft
  have HV := Lib.hid hv; clear hv
  have HVC := Lib.hid hvc; clear hvc
  clear hs hcs
  obtain ⟨q, hq⟩ : ∃ q, q = allAns cs := ⟨_, rfl⟩
  have hq0 := fun (h : q = 0) => allAns_zero.1 (by rw [← hq]; exact h)
  rw [← hq] at HF ⊢
  have HQ := Lib.hid hq0; clear hq0 hq
  go_enter Tryz.func70, Tryz.ntmps70
  go_wp2_with fail
  refine HF.out.mono ?_
  rintro e w1 ⟨rfl, hb1⟩
  have HV1 := Lib.hid (HV.out.next hb1)
  have HVC1 := Lib.hid (HVC.out.next hb1)
  have HB1 := Lib.hid hb1; clear hb1
  by_cases h0 : q = 0
  · subst h0
    have HQ0 := Lib.hid (HQ.out rfl)
    clear HQ
    have hsd := HSD.out w1 HV1.out
    cases sb with
    | true =>
      have HR := Lib.hid (HSP.out rfl).1
      have HS := Lib.hid hsd
      clear hsd
      go_wp2_with fail
      refine HS.out.mono ?_
      rintro e w2 ⟨rfl, hb2⟩
      have HV2 := Lib.hid (HV1.out.next hb2)
      have HVC2 := Lib.hid (HVC1.out.next hb2)
      have HB2 := Lib.hid (HB1.out.trans (hb2.mono HB1.out.size)); clear hb2
      clear HV1 HVC1 HB1
      go_wp2_with fail
      refine (HAF.out HR.out HQ0.out w2 HV2.out HVC2.out).mono ?_
      rintro e w3 ⟨A3, c3, rfl, ho3, hb3⟩
      have HO3 := Lib.hid (ho3.lower HB2.out.size); clear ho3
      have HB3 := Lib.hid (HB2.out.trans (hb3.mono HB2.out.size)); clear hb3
      go_wp2_with fail
      go_ret2
      exact ⟨_, _, rfl, HB3.out, ApplyIs.ok HO3.out⟩
    | false =>
      have HS := Lib.hid hsd
      clear hsd
      go_wp2_with fail
      refine HS.out.mono ?_
      rintro e w2 ⟨rfl, hb2⟩
      have HB2 := Lib.hid (HB1.out.trans (hb2.mono HB1.out.size)); clear hb2
      clear HV1 HVC1 HB1
      go_wp2_with fail
      go_ret2
      exact ⟨_, _, rfl, HB2.out, ApplyIs.form⟩
  · have H0 := Lib.hid h0
    go_wp2_with fail
    go_ret2
    exact ⟨_, _, rfl, HB1.out, ApplyIs.err H0.out⟩
end Go.Proofs.YtbifnogocmgddaaGreat
namespace Go.Proofs.YtbifnogocmgddaaGreat
open Go.RowKit
attribute [local go_sem] less_eq same_eq le_eq ge_eq gt_eq

def encD (d : Dd) : List Value := [.int .i64 d.1, .int .i64 d.2.kind, .string d.2.key, .string d.2.val]
theorem encD_len (d : Dd) : (encD d).length = 4 := rfl
theorem encD_one (d : Dd) : ∀ u ∈ encD d, u.oneCell' = true := by
  intro u hu
  simp [encD] at hu
  rcases hu with rfl | rfl | rfl | rfl <;> rfl
theorem encD_one' (l : List Dd) : ∀ v ∈ flatG encD l, v.oneCell' = true := by
  intro u hu
  obtain ⟨y, _, hy⟩ := List.mem_flatMap.1 hu
  exact encD_one y u hy
abbrev RdD (w : World) (B : Nat) (v : Value) (l : List Dd) : Prop := Rd encD 4 w B v l
abbrev OwnD (w : World) (base : Nat) (v : Value) (l : List Dd) : Prop := Own encD 4 101 w base v l
theorem info_deed : (Tryz.prog.info? 101).map (fun i => (i.zero, i.size, i.bytes)) = some (some (.agg #[.int .i64 0, .int .i64 0, .string ⟨#[]⟩, .string ⟨#[]⟩]), 4, 48) := by kernel_rfl
theorem RdD.at {w : World} {B : Nat} {v : Value} {l : List Dd} (h : RdD w B v l) : ∃ A c, v = .slice A l.length c ∧ l.length ≤ c ∧ ∀ i (_ : i < l.length), ∃ b o, A = some ⟨b, o, none⟩ ∧ b < B ∧
    w.cell? ⟨b, o + i * 4, none⟩ = some (.int .i64 l[i].1) ∧ w.cell? ⟨b, o + i * 4 + 1, none⟩ = some (.int .i64 l[i].2.kind) ∧ w.cell? ⟨b, o + i * 4 + 2, none⟩ = some (.string l[i].2.key) ∧ w.cell? ⟨b, o + i * 4 + 3, none⟩ = some (.string l[i].2.val) := by
  obtain ⟨A, c, hv, hc, hi⟩ := h
  refine ⟨A, c, hv, hc, fun i hs => ?_⟩
  obtain ⟨b, o, hA, hB, h1⟩ := hi i hs
  exact ⟨b, o, hA, hB, h1 0 _ rfl, h1 1 _ rfl, h1 2 _ rfl, h1 3 _ rfl⟩
theorem Own.mv {α : Type} {enc : α → List Value} {k : Nat} {e : TypeId} {w w' : World} {base : Nat} {v : Value} {l : List α} {D : Nat → Prop} (h : Own enc k e w base v l) (hm : Mv D w w') (hn : ∀ i, v.ownBlock = some i → ¬ D i) : Own enc k e w' base v l := by
  have hlow := fun i (hi : v.ownBlock = some i) => h.low hi
  refine ⟨h.1, ?_⟩
  rcases h.2 with h2 | ⟨g, cap, cur, hv, hg, hh, r⟩
  · exact .inl h2
  · have hob : v.ownBlock = some g := by rw [hv]; rfl
    exact .inr ⟨g, cap, cur, hv, hg, (hm.block g (hlow g hob).2 (hn g hob)).trans hh, r⟩

/-- the Past's cells at block q -/
def PaCells (w : World) (base q : Nat) (G : Nat → Prop) (n : Nat) (p : Pa) : Prop :=
  ∃ bv dv bs ds, Whole w q 87 [.int .i64 p.first, .int .i64 p.last, bv, dv] ∧ OwnP w base bv bs ∧ OwnD w base dv ds ∧ Gh p bs ds n ∧ (∀ i, bv.ownBlock = some i → G i) ∧ (∀ i, dv.ownBlock = some i → G i)
/-- the Past at block q; its blocks are among G; n: how many pairs and changes it has been given -/
structure PaAt (w : World) (base q : Nat) (G : Nat → Prop) (n : Nat) (p : Pa) : Prop where
  blk : PaCells w base q G n p
  me : G q
  low : base ≤ w.heap.size ∧ ∀ i, G i → base ≤ i ∧ i < w.heap.size
section
variable {w w' : World} {base q n : Nat} {G : Nat → Prop} {p : Pa}
theorem PaAt.mv {D : Nat → Prop} (h : PaAt w base q G n p) (hm : Mv D w w') (hn : ∀ i, G i → ¬ D i) : PaAt w' base q G n p := by
  obtain ⟨⟨bv, dv, bs, ds, h1, h2, h3, h4, h5, h6⟩, hq, hl⟩ := h
  exact ⟨⟨bv, dv, bs, ds, hm.whole h1 (hn q hq), h2.mv hm (fun i hi => hn i (h5 i hi)), h3.mv hm (fun i hi => hn i (h6 i hi)), h4, h5, h6⟩, hq, ⟨Nat.le_trans hl.1 hm.size, fun i hi => ⟨(hl.2 i hi).1, Nat.lt_of_lt_of_le (hl.2 i hi).2 hm.size⟩⟩⟩
theorem PaAt.lower {base' : Nat} (h : PaAt w base q G n p) (hb : base' ≤ base) : PaAt w base' q G n p := by
  obtain ⟨⟨bv, dv, bs, ds, h1, h2, h3, h4, h5, h6⟩, hq, hl⟩ := h
  exact ⟨⟨bv, dv, bs, ds, h1, h2.lower hb, h3.lower hb, h4, h5, h6⟩, hq, ⟨Nat.le_trans hb hl.1, fun i hi => ⟨Nat.le_trans hb (hl.2 i hi).1, (hl.2 i hi).2⟩⟩⟩
theorem PaAt.new (h : PaAt w base q G n p) (hb : Below w.heap.size w w') : PaAt w' base q G n p := h.mv (Mv.of_new hb (fun _ => False)) (fun _ _ h => h)
theorem PaAt.first64 (h : PaAt w base q G n p) : I64 p.first := by obtain ⟨_, _, _, _, _, _, _, h4, _⟩ := h.blk; exact h4.i1
theorem PaAt.last64 (h : PaAt w base q G n p) : I64 p.last := by obtain ⟨_, _, _, _, _, _, _, h4, _⟩ := h.blk; exact h4.i2
end
/-- blocks that stood in w and were none of G -/
def Else (w : World) (G : Nat → Prop) : Nat → Prop := fun i => ¬ G i ∧ i < w.heap.size

set_option maxHeartbeats 1000000 in
theorem pnew_any (w : World) :
    Calls Tryz.prog 19 #[] w fun e w' => ∃ q G, e = .returned (.pointer (some ⟨q, 0, none⟩)) ∧ PaAt w' w.heap.size q G 0 Pa.new ∧ Below w.heap.size w w' := by
  go_enter Tryz.func19, Tryz.ntmps19
  go_wp2_with fail
  go_ret
  refine ⟨w.heap.size, fun i => i = w.heap.size, rfl, ⟨⟨.slice none 0 0, .slice none 0 0, [], [], Whole.fresh w _ [_, _, _, _], Own.nil _ _, Own.nil _ _, Gh.new, by simp [Value.ownBlock], by simp [Value.ownBlock]⟩, rfl, ⟨by simp, ?_⟩⟩, (Below.refl _ w).alloc (Nat.le_refl _) _⟩
  rintro i rfl
  simp

set_option maxHeartbeats 1000000 in
theorem pends_any (base q n : Nat) (G : Nat → Prop) (p : Pa) (w : World) (h : PaAt w base q G n p) :
    Calls Tryz.prog 28 #[.pointer (some ⟨q, 0, none⟩)] w fun e w' => e = .returned (.tuple #[.int .i64 p.first, .int .i64 p.last]) ∧ Below w.heap.size w w' := by
  obtain ⟨bv, dv, bs, ds, hb, _⟩ := h.blk
  have hlt := hb.size
  have c0 := hb.cell 0 _ rfl
  have c1 := hb.cell 1 _ rfl
  clear hb h
  go_enter Tryz.func28, Tryz.ntmps28
  go_wp2_with fail
  refine wp_region_planB [(true, 0), (true, 1), (true, 2), (true, 3), (true, 4), (true, 5), (true, 6), (true, 7), (true, 8), (true, 9)] (by kernel_rfl) (by kernel_rfl) (fun _ _ d _ _ h => by cases d <;> exact h) ?_
  repeat (refine PlanB.take (v := ?_) rfl rfl ?_ ?_; rotate_left; (focus (intro W hW; have q0 := (hW.cell (p := ⟨q, 0, none⟩) hlt).trans c0; have q1 := (hW.cell (p := ⟨q, 1, none⟩) hlt).trans c1; go_simp; (try with_reducible rfl); done)); (try simp only [Act.put, List.setIfInBounds_toArray, List.set_cons_zero, List.set_cons_succ]))
  simp only [PlanB]
  go_wp2_with fail
  exact bodyPost_ret (v := .tuple #[.int .i64 p.first, .int .i64 p.last]) (by simp [results, Tryz.results28, go_sem]) rfl ⟨rfl, (Below.refl _ w).drew⟩

set_option maxHeartbeats 1000000 in
theorem known_any (q : Nat) (p : Pa) (v : Int) (bv dv : Value) (w : World) (hb : Whole w q 87 [.int .i64 p.first, .int .i64 p.last, bv, dv]) :
    Calls Tryz.prog 49 #[.pointer (some ⟨q, 0, none⟩), .int .i64 v] w fun e w' => e = .returned (.int .i64 (p.known v)) ∧ w' = w := by
  have c0 := hb.cell 0 _ rfl
  have c1 := hb.cell 1 _ rfl
  clear hb
  obtain ⟨R, hR⟩ : ∃ R, R = p.known v := ⟨_, rfl⟩
  rw [← hR]
  unfold Pa.known at hR
  go_enter Tryz.func49, Tryz.ntmps49
  by_cases h0 : v < p.first
  · rw [if_pos h0] at hR
    have HR := Lib.hid hR; clear hR
    go_wp2_with fail
    go_ret
    exact ⟨by rw [HR.out]; rfl, rfl⟩
  · rw [if_neg h0] at hR
    by_cases h1 : p.last < v
    · rw [if_pos h1] at hR
      have HR := Lib.hid hR; clear hR
      go_wp2_with fail
      go_ret
      exact ⟨by rw [HR.out]; rfl, rfl⟩
    · rw [if_neg h1] at hR
      have HR := Lib.hid hR; clear hR
      go_wp2_with fail
      go_ret
      exact ⟨by rw [HR.out]; rfl, rfl⟩
set_option maxHeartbeats 1000000 in
theorem known_none (v : Int) (w : World) : Calls Tryz.prog 49 #[.pointer none, .int .i64 v] w fun e w' => e = .returned (.int .i64 1) ∧ w' = w := by
  go_enter Tryz.func49, Tryz.ntmps49
  go_wp2_with fail
  go_ret
  exact ⟨rfl, rfl⟩

set_option maxHeartbeats 1000000 in
theorem pnone_add (v : Int) (vc : Value) (w : World) : Calls Tryz.prog 25 #[.pointer none, .int .i64 v, vc] w fun e w' => e = .returned (.int .i64 1) ∧ Below w.heap.size w w' := by
  go_enter Tryz.func25, Tryz.ntmps25
  go_wp2_with fail
  go_ret
  exact ⟨rfl, Below.refl _ _⟩
set_option maxHeartbeats 1000000 in
theorem pnone_get (k : K) (v : Int) (w : World) : Calls Tryz.prog 29 #[.pointer none, .string k, .int .i64 v] w fun e w' => e = .returned (.tuple #[.string ⟨#[]⟩, .bool false, .int .i64 1]) ∧ Below w.heap.size w w' := by
  go_enter Tryz.func29, Tryz.ntmps29
  go_wp2_with (go_at_call 49; refine (known_none _ _).mono ?_; rintro e w1 ⟨rfl, rfl⟩)
  refine bodyPost_ret (v := .tuple #[.string ⟨#[]⟩, .bool false, .int .i64 1]) (by simp [results, Tryz.results29, go_sem]) rfl ⟨rfl, ?_⟩
  ((repeat' (first | exact Below.refl _ _ | refine Below.alloc ?_ ?_ _ | refine Below.setCell ?_ ?_ _ | refine Below.drew ?_)); all_goals ((try simp only [World.size_alloc]); omega))
set_option maxHeartbeats 1000000 in
theorem pnone_list (s : K × K) (v most : Int) (w : World) : Calls Tryz.prog 27 #[.pointer none, spv s, .int .i64 v, .int .i64 most] w fun e w' => ∃ A c, e = .returned (.tuple #[.slice A 0 c, .int .i64 1]) ∧ Below w.heap.size w w' := by
  unfold spv
  go_enter Tryz.func27, Tryz.ntmps27
  go_wp2_with (go_at_call 49; refine (known_none _ _).mono ?_; rintro e w1 ⟨rfl, rfl⟩)
  refine bodyPost_ret (v := .tuple #[.slice none 0 0, .int .i64 1]) (by simp [results, Tryz.results27, go_sem]) rfl ⟨none, 0, rfl, ?_⟩
  ((repeat' (first | exact Below.refl _ _ | refine Below.alloc ?_ ?_ _ | refine Below.setCell ?_ ?_ _ | refine Below.drew ?_)); all_goals ((try simp only [World.size_alloc]); omega))
set_option maxHeartbeats 1000000 in
theorem pnone_forget (v : Int) (w : World) : Calls Tryz.prog 34 #[.pointer none, .int .i64 v] w fun e w' => e = .returned (.int .i64 1) ∧ Below w.heap.size w w' := by
  go_enter Tryz.func34, Tryz.ntmps34
  go_wp2_with fail
  go_ret
  exact ⟨rfl, Below.refl _ _⟩
set_option maxHeartbeats 1000000 in
theorem pnone_back (v : Int) (w : World) : Calls Tryz.prog 31 #[.pointer none, .int .i64 v] w fun e w' => e = .returned (.int .i64 1) ∧ Below w.heap.size w w' := by
  go_enter Tryz.func31, Tryz.ntmps31
  go_wp2_with (go_at_call 49; refine (known_none _ _).mono ?_; rintro e w1 ⟨rfl, rfl⟩)
  go_ret
  exact ⟨rfl, Below.refl _ _⟩
set_option maxHeartbeats 1000000 in
theorem pnone_ends (w : World) : Calls Tryz.prog 28 #[.pointer none] w fun e w' => e = .returned (.tuple #[.int .i64 0, .int .i64 0]) ∧ Below w.heap.size w w' := by
  go_enter Tryz.func28, Tryz.ntmps28
  go_wp2_with fail
  exact bodyPost_ret (v := .tuple #[.int .i64 0, .int .i64 0]) (by simp [results, Tryz.results28, go_sem]) rfl ⟨rfl, Below.refl _ _⟩

set_option maxHeartbeats 2000000 in
theorem names_any (c : Chg) (k : K) (w : World) : Calls Tryz.prog 55 #[cval c, .string k] w fun e w' => e = .returned (.bool (namesB c k)) ∧ Below w.heap.size w w' := by
  obtain ⟨kd, x, y⟩ := c
  obtain ⟨R, hR⟩ : ∃ R, R = namesB ⟨kd, x, y⟩ k := ⟨_, rfl⟩
  rw [← hR]
  unfold namesB at hR
  unfold cval
  simp only at hR ⊢
  go_enter Tryz.func55, Tryz.ntmps55
  by_cases h3 : kd = 3
  · subst h3
    rw [if_pos rfl] at hR
    have hh := fun W => phas_any (x, y) k W
    rw [← hR] at hh
    have HH := Lib.hid hh; clear hh hR
    go_wp2_with fail
    refine (HH.out _).mono ?_
    rintro e w2 ⟨rfl, hb2⟩
    have HB2 := Lib.hid (((Below.refl _ w).alloc (Nat.le_refl _) (.cells #[.int .i64 3, .string x, .string y] 67)).trans (hb2.mono (by simp)))
    clear hb2
    go_wp2_with fail
    go_ret
    exact ⟨rfl, HB2.out⟩
  · rw [if_neg h3] at hR
    have HR := Lib.hid hR; clear hR
    go_wp2_with fail
    go_ret
    exact ⟨by rw [HR.out]; rfl, (Below.refl _ w).alloc (Nat.le_refl _) _⟩
set_option maxHeartbeats 2000000 in
theorem left_any (c : Chg) (w : World) : Calls Tryz.prog 56 #[cval c] w fun e w' => e = .returned (.tuple #[.string (leftV c).1, .bool (leftV c).2]) ∧ Below w.heap.size w w' := by
  obtain ⟨kd, x, y⟩ := c
  obtain ⟨R, hR⟩ : ∃ R, R = leftV ⟨kd, x, y⟩ := ⟨_, rfl⟩
  rw [← hR]
  unfold leftV at hR
  unfold cval
  simp only at hR ⊢
  go_enter Tryz.func56, Tryz.ntmps56
  by_cases h1 : kd = 1
  · subst h1
    rw [if_pos rfl] at hR
    subst hR
    go_wp2_with fail
    exact bodyPost_ret (v := .tuple #[.string y, .bool true]) (by simp [results, Tryz.results56, go_sem]) rfl ⟨rfl, (Below.refl _ w).alloc (Nat.le_refl _) _⟩
  · rw [if_neg h1] at hR
    subst hR
    go_wp2_with fail
    exact bodyPost_ret (v := .tuple #[.string ⟨#[]⟩, .bool false]) (by simp [results, Tryz.results56, go_sem]) rfl ⟨rfl, (Below.refl _ w).alloc (Nat.le_refl _) _⟩
end Go.Proofs.YtbifnogocmgddaaGreat
namespace Go.Proofs.YtbifnogocmgddaaGreat
open Go.RowKit Go.Shelf
attribute [local go_sem] Oper.semAt_some

/-- what has come when m rounds are over: the last m, from behind -/
def bk (n m : Nat) : List (Fin n) := (List.finRange n).reverse.take m
theorem bk_succ (n m : Nat) (h : m < n) : bk n (m + 1) = bk n m ++ [⟨n - 1 - m, by omega⟩] := by
  unfold bk
  rw [List.take_succ_eq_append_getElem (by simpa using h)]
  congr 2
  rw [List.getElem_reverse, List.getElem_finRange]
  simp
theorem bk_length (n m : Nat) (h : m ≤ n) : (bk n m).length = m := by simp [bk, h]
theorem bk_mem {n m : Nat} (i : Fin n) (h : n - 1 - i.1 < m) : i ∈ bk n m := by
  unfold bk
  rw [List.mem_take_iff_getElem]
  have hi := i.2
  refine ⟨n - 1 - i.1, by simp; omega, ?_⟩
  rw [List.getElem_reverse, List.getElem_finRange]
  apply Fin.ext
  simp
  omega
theorem bk_last {n m : Nat} {ini : List (Fin n)} {last : Fin n} (hm : m ≤ n) (h : ini ++ [last] = bk n m) : ini = bk n (n - 1 - last.1) := by
  rcases m with _ | m
  · simp [bk] at h
  · rw [bk_succ n m (by omega)] at h
    obtain ⟨rfl, e⟩ := List.append_inj' h rfl
    simp at e
    subst e
    simp only
    congr 1
    omega
def encB (ds : List Dd) (x : Fin ds.length) : Array Value := #[.int .i64 (x.1 : Int), .agg #[.int .i64 ds[x].1, .int .i64 ds[x].2.kind, .string ds[x].2.key, .string ds[x].2.val]]

set_option maxRecDepth 100000 in
set_option maxHeartbeats 2000000 in
theorem backward1_in (F : Fence) (n : Nat) (h8 : F.fn 76) (hro : F.round = none) (hn : 1 ≤ n) (l Bs n₀ : Nat) (A : Option Addr) (c : Nat) (ds : List Dd) (hreach : ds.length < 4611686018427387904) (J Jx : List (Fin ds.length) → World → Prop)
    (hY : ∀ pre x W, J pre W → pre.length < ds.length → YieldAt F (n - 1) Tryz.prog l (encB ds x) W fun e W' =>
      (e = .returned (.bool true) ∧ J (pre ++ [x]) W' ∧ Below n₀ W W') ∨ (e = .returned (.bool false) ∧ Jx (pre ++ [x]) W'))
    (W : World) (hB : Bs < n₀) (hBs : W.cell? ⟨Bs, 0, none⟩ = some (.slice A ds.length c)) (hc : RdD W n₀ (.slice A ds.length c) ds) (h0 : J [] W) :
    CallsIn F n Tryz.prog 76 #[.func (.yield l) #[] #[], .pointer (some ⟨Bs, 0, none⟩)] W fun e W' => (∃ v, e = .returned v) ∧
      ((∃ ys, ys = bk ds.length ds.length ∧ J ys W') ∨ (∃ pre, (∃ m, m ≤ ds.length ∧ pre = bk ds.length m) ∧ Jx pre W')) := by
  refine callsIn_of_wp Tryz.func76 rfl h8 ?_ hro
  simp only [Tryz.ntmps76, List.size_toArray, List.length_cons, List.length_nil, Nat.reduceAdd, Nat.reduceSub, Array.replicate_succ, Array.replicate_zero, List.push_toArray, List.append_toArray, List.nil_append, List.cons_append]
  obtain ⟨A', c', hv, hcl, hi⟩ := hc.at
  injection hv with hv1 _ hv3
  subst hv1 hv3
  have HI := Lib.hid hi; clear hi
  clear hc
  gi_wp2
  gi_loopw [3] (fun i wr => ∃ k : Nat, k ≤ ds.length ∧ i = .int .i64 ((k : Int) - 1) ∧ J (bk ds.length (ds.length - k)) wr ∧ Below n₀ W wr)
    (fun i _ => (intOf i + 1).toNat)
  case atStart => exact ⟨ds.length, Nat.le_refl _, rfl, by rw [Nat.sub_self]; exact h0, Below.refl _ _⟩
  case round =>
    obtain ⟨k, hk, rfl, hJs, hnx⟩ := hrel
    have hsl := (hnx.cell (p := ⟨Bs, 0, none⟩) hB).trans hBs
    rcases k with _ | k
    · have hneg : ¬ (0 : Int) ≤ (((0 : Nat) : Int) - 1) := by omega
      gi_wp2
      go_end0
      exact ⟨⟨_, rfl⟩, .inl (by simpa using hJs)⟩
    · have ek : (((k + 1 : Nat) : Int) - 1) = (k : Int) := by omega
      rw [ek]
      have hlt : k < ds.length := by omega
      obtain ⟨b, o, rfl, hbB, k0, k1, k2, k3⟩ := HI.out k hlt
      rw [← hnx.cell (p := ⟨b, _, none⟩) hbB] at k0 k1 k2 k3
      have hbk := bk_succ ds.length (ds.length - (k + 1)) (by omega)
      have hix : (⟨ds.length - 1 - (ds.length - (k + 1)), by omega⟩ : Fin ds.length) = ⟨k, hlt⟩ := Fin.ext (by simp; omega)
      rw [hix, show ds.length - (k + 1) + 1 = ds.length - k by omega] at hbk
      obtain ⟨fn, tmps, assign, body, hy, hR⟩ := hY _ ⟨k, hlt⟩ wr hJs (by rw [bk_length _ _ (by omega)]; omega)
      rw [← hbk] at hR
      clear hbk hix
      unfold encB at hy
      simp only [Fin.getElem_fin] at hy
      generalize ds[k] = d at k0 k1 k2 k3 hy
      obtain ⟨dv, dk, dx, dy⟩ := d
      dsimp only at hy k0 k1 k2 k3
      have hge : (0 : Int) ≤ (k : Int) := by omega
      have hkl : (k : Int) < (ds.length : Int) := by omega
      gi_wp2
      refine hR.mono ?_
      rintro e W3 (⟨rfl, hJ3, hk3⟩ | ⟨rfl, hJx3⟩)
      · gi_wp2
        go_roundw
        case rel => exact ⟨k, by omega, by simp, hJ3, hnx.trans hk3⟩
        case measure => simp [intOf]
      · gi_wp2
        refine bodyPost_ret (results_none rfl _ _ _) rfl ?_
        exact ⟨⟨_, rfl⟩, .inr ⟨_, ⟨ds.length - k, by omega, rfl⟩, hJx3⟩⟩

set_option maxHeartbeats 1000000 in
theorem backward_in (F : Fence) (n : Nat) (h5 : F.fn 53) (hro : F.round = none) (a : Option Addr) (len cap : Nat) (w : World) :
    CallsIn F n Tryz.prog 53 #[.slice a len cap] w fun e w' => e = .returned (.func (.func 76) #[] #[.pointer (some ⟨w.heap.size, 0, none⟩)]) ∧ w' = w.alloc (.cells #[.slice a len cap] 85) := by
  refine callsIn_of_wp Tryz.func53 rfl h5 ?_ hro
  simp only [Tryz.ntmps53, List.size_toArray, List.length_cons, List.length_nil, Nat.reduceAdd, Nat.reduceSub, Array.replicate_succ, Array.replicate_zero, List.push_toArray, List.append_toArray, List.nil_append, List.cons_append]
  gi_wp2
  go_ret
  exact ⟨rfl, rfl⟩

theorem backward_stops (F : Fence) (n : Nat) (h8 : F.fn 76) (hro : F.round = none) (hn : 1 ≤ n) (Bs n₀ : Nat) (A : Option Addr) (c : Nat) (ds : List Dd) (hreach : ds.length < 4611686018427387904) (w : World) (hBs : Bs < n₀) (hn₀ : n₀ ≤ w.heap.size)
    (hc : w.cell? ⟨Bs, 0, none⟩ = some (.slice A ds.length c)) (hI : RdD w n₀ (.slice A ds.length c) ds) :
    SeqStopsK F n Tryz.prog 76 #[.pointer (some ⟨Bs, 0, none⟩)] (encB ds) (Below n₀) (fun ys => ys = bk ds.length ds.length)
      (fun pre => ∃ m, m ≤ ds.length ∧ pre = bk ds.length m) ds.length w := fun l J Jx W hW _ _ hY h0 => by
  have hc' := (hW.cell (p := ⟨Bs, 0, none⟩) (show Bs < w.heap.size by omega)).trans hc
  exact backward1_in F n h8 hro hn l Bs n₀ A c ds hreach J Jx hY W hBs hc' (hI.below (hW.mono hn₀) (Nat.le_refl _)) h0

theorem whole_own {β : Type} (B : Nat) (t : TypeId) (f : β → List Value) : Go.Own (fun s W => Whole W B t (f s)) := fun s X Y row hs hg hrow =>
  hs.grown hg (fun e' => by obtain ⟨o, ho, hc⟩ := hrow B e'.symm; rw [show X.heap[B]? = _ from hs] at ho; cases ho; cases hc)
theorem keeps_of_below {W W' : World} (hb : Below W.heap.size W W') : KeepsOthers W W' := ⟨hb.size, fun k o hk _ => (hb.block k (Array.getElem?_eq_some_iff.1 hk).1).trans hk⟩
set_option maxRecDepth 100000 in
set_option maxHeartbeats 4000000 in
theorem upTo_in (F : Fence) (n : Nat) (h35 : F.fn 54) (h34 : F.fn 53) (h50 : F.fn 76) (hro : F.round = none) (hn : 3 ≤ n)
    (q : Nat) (f0 f1 bv dv : Value) (ds : List Dd) (v : Int) (w : World) (hb : Whole w q 87 [f0, f1, bv, dv]) (hd : RdD w w.heap.size dv ds) (hreach : ds.length < 4611686018427387904) :
    CallsIn F n Tryz.prog 54 #[.pointer (some ⟨q, 0, none⟩), .int .i64 v] w fun e w' =>
      ((e = .returned (.slice none 0 0) ∧ ∀ i (_ : i < ds.length), v < ds[i].1) ∨ (∃ A c, dv = .slice A ds.length c ∧ ∃ i, ∃ hi : i < ds.length, e = .returned (.slice A (i + 1) c) ∧ ds[i].1 ≤ v ∧ ∀ j (_ : j < ds.length), i < j → v < ds[j].1)) ∧ Below w.heap.size w w' := by
  have h1 : 1 ≤ n := by omega
  obtain ⟨A, c, rfl, hcl, _⟩ := id hd
  have hq := hb.size
  refine callsIn_of_wp_marks Tryz.func54 rfl h35 ?_ hro
  simp only [Tryz.ntmps54, List.size_toArray, List.length_cons, List.length_nil, Nat.reduceAdd, Nat.reduceSub, Array.replicate_succ, Array.replicate_zero, List.push_toArray, List.append_toArray, List.nil_append, List.cons_append]
  have q3 := (((hb.alloc (.cells #[.pointer (some ⟨q, 0, none⟩)] 58)).alloc (.cells #[.int .i64 v] 3)).alloc (.cells #[.slice none 0 0] 85)).cell 3 _ rfl
  gi_wp2_with (gi_at_call 53; refine (backward_in F (n - 1) h34 hro _ _ _ _).mono ?_; rintro e w' ⟨rfl, rfl⟩)
  have b0 := (((Boxed.new w 58 (.pointer (some ⟨q, 0, none⟩))).alloc (.cells #[.int .i64 v] 3)).alloc (.cells #[.slice none 0 0] 85)).alloc (.cells #[.slice A ds.length c] 85)
  have b1 := ((Boxed.new (w.alloc (.cells #[.pointer (some ⟨q, 0, none⟩)] 58)) 3 (.int .i64 v)).alloc (.cells #[.slice none 0 0] 85)).alloc (.cells #[.slice A ds.length c] 85)
  have b2 := (Boxed.new ((w.alloc (.cells #[.pointer (some ⟨q, 0, none⟩)] 58)).alloc (.cells #[.int .i64 v] 3)) 85 (.slice none 0 0)).alloc (.cells #[.slice A ds.length c] 85)
  have b3 := Boxed.new (((w.alloc (.cells #[.pointer (some ⟨q, 0, none⟩)] 58)).alloc (.cells #[.int .i64 v] 3)).alloc (.cells #[.slice none 0 0] 85)) 85 (.slice A ds.length c)
  have hB0 : Below w.heap.size w ((((w.alloc (.cells #[.pointer (some ⟨q, 0, none⟩)] 58)).alloc (.cells #[.int .i64 v] 3)).alloc (.cells #[.slice none 0 0] 85)).alloc (.cells #[.slice A ds.length c] 85)) := ((((Below.refl _ w).alloc (Nat.le_refl _) _).alloc (by simp) _).alloc (by simp; omega) _).alloc (by simp; omega) _
  simp only [World.size_alloc] at b1 b2 b3
  have hsz : ((((w.alloc (.cells #[.pointer (some ⟨q, 0, none⟩)] 58)).alloc (.cells #[.int .i64 v] 3)).alloc (.cells #[.slice none 0 0] 85)).alloc (.cells #[.slice A ds.length c] 85)).heap.size = w.heap.size + 4 := by simp
  obtain ⟨W0, hW0⟩ : ∃ W0, ((((w.alloc (.cells #[.pointer (some ⟨q, 0, none⟩)] 58)).alloc (.cells #[.int .i64 v] 3)).alloc (.cells #[.slice none 0 0] 85)).alloc (.cells #[.slice A ds.length c] 85)) = W0 := ⟨_, rfl⟩
  rw [hW0] at b0 b1 b2 b3 hB0 hsz ⊢
  clear hW0
  have hd0 : RdD W0 W0.heap.size (.slice A ds.length c) ds := (hd.below hB0 (Nat.le_refl _)).mono (by omega)
  have q3w := hb.cell 3 _ rfl
  have HD := Lib.hid hd; clear hd
  rename_i hi0 _ _ _
  have HI0 := Lib.hid hi0; clear hi0 q3
  refine wpIn_rangeFunc_ownH hro h1 (gf := 76) (lb := #[.pointer (some ⟨w.heap.size + 1 + 1 + 1, 0, none⟩)]) rfl h50 (enters_of Tryz.func76 (by kernel_rfl) rfl)
    (backward_stops F (n - 1) h50 hro (by omega) (w.heap.size + 1 + 1 + 1) W0.heap.size A c ds hreach W0 (by omega) (Nat.le_refl _) b3.cell hd0) belowK_t (belowK_b (Nat.le_refl _)) (Below.refl _ _) (fun _ => rfl)
    (fun (pre : List (Fin ds.length)) W => (∀ x ∈ pre, v < ds[x].1) ∧ Below W0.heap.size W0 W)
    (fun jc (pre : List (Fin ds.length)) W => (jc = .ret ∧ ∃ (ini : List (Fin ds.length)) (last : Fin ds.length), pre = ini ++ [last] ∧ (∀ x ∈ ini, v < ds[x].1) ∧ ds[last].1 ≤ v ∧ Boxed W (w.heap.size + 1 + 1) 85 (.slice A (last.1 + 1) c)) ∧ Below w.heap.size w W)
    (OwnFrom.and (ownFrom_pure _ _) (ownFrom_below (Nat.le_refl _) (Nat.le_refl _)))
    (fun jc => OwnFrom.and (Own.from (fun s X Y row hs hg hr => by obtain ⟨hc, ini, last, e1, e2, e3, e4⟩ := hs; exact ⟨hc, ini, last, e1, e2, e3, boxed_own _ _ (fun (_ : Unit) => Value.slice A (last.1 + 1) c) () X Y row e4 hg hr⟩) _) (ownFrom_below (Nat.le_refl _) (by omega)))
    ⟨by simp, Below.refl _ _⟩
    (fun (x : Fin ds.length) a' W => ∃ Bx, w.heap.size + 1 + 1 + 1 < Bx ∧ Whole W Bx 101 (encD ds[x]) ∧ a' = { tmps := #[.pointer (some ⟨q, 0, none⟩), .int .i64 v, .pointer (some ⟨w.heap.size, 0, none⟩), .pointer (some ⟨w.heap.size + 1, 0, none⟩), .pointer (some ⟨w.heap.size + 1 + 1, 0, none⟩), .int .i64 (x.1 : Int), .pointer (some ⟨Bx, 0, none⟩), .pointer (some ⟨q, 0, none⟩), .pointer (some ⟨q, 0, none⟩), .pointer (some ⟨q, 3, none⟩), .slice A ds.length c, .func (.func 76) #[] #[.pointer (some ⟨w.heap.size + 1 + 1 + 1, 0, none⟩)], .int .i64 (x.1 : Int), .agg #[.int .i64 ds[x].1, .int .i64 ds[x].2.kind, .string ds[x].2.key, .string ds[x].2.val], undef, undef, undef, undef, undef, undef, undef, undef, undef, undef, undef], defers := [] })
    (fun x a' _ X Y row hs hg hr => by obtain ⟨Bx, h1, h2, h3⟩ := hs; exact ⟨Bx, h1, whole_own Bx 101 (fun (_ : Unit) => encD ds[x]) () X Y row h2 hg (fun r e => (hr r e).2), h3⟩)
    ?assign ?body ?done ?stop
  case assign =>
    rintro l pre x W K ⟨hp, hBW⟩ hK
    unfold encB
    generalize ds[x] = d at hK ⊢
    obtain ⟨xv, xk, xx, xy⟩ := d
    gi_wp2
    exact hK _ _ ((KeepsOthers.alloc _ _).from _) ((Below.refl _ W).alloc hBW.size _) ⟨hp, hBW.alloc hBW.size _⟩ ⟨W.heap.size, by have := hBW.size; omega, Whole.fresh W _ _, rfl⟩
  case body =>
    rintro l pre x a' W hl _ ⟨hp, hBW⟩ ⟨Bx, hBx, hW, rfl⟩ hlt
    have hx1 := x.2
    have c0 := hW.cell 0 _ rfl
    have hsz2 := hBW.size
    have b0' : Boxed W w.heap.size 58 (.pointer (some ⟨q, 0, none⟩)) := (hBW.block _ (by omega)).trans b0
    have b1' : Boxed W (w.heap.size + 1) 3 (.int .i64 v) := (hBW.block _ (by omega)).trans b1
    have b2' : Boxed W (w.heap.size + 1 + 1) 85 (.slice none 0 0) := (hBW.block _ (by omega)).trans b2
    have hBw : Below w.heap.size w W := hB0.trans (hBW.mono (by omega))
    have q3 := (hBw.cell (p := ⟨q, 3, none⟩) hq).trans q3w
    have d0 := b0'.cell
    have d1 := b1'.cell
    have d2 := b2'.cell
    have f2 := b2'.frozen
    have hpx : ∀ u, ds[x].1 ≤ v → ownPostG W0.heap.size (Below W0.heap.size)
      (fun (pre : List (Fin ds.length)) W => (∀ x ∈ pre, v < ds[x].1) ∧ Below W0.heap.size W0 W)
      (fun jc (pre : List (Fin ds.length)) W => (jc = .ret ∧ ∃ (ini : List (Fin ds.length)) (last : Fin ds.length), pre = ini ++ [last] ∧ (∀ x ∈ ini, v < ds[x].1) ∧ ds[last].1 ≤ v ∧ Boxed W (w.heap.size + 1 + 1) 85 (.slice A (last.1 + 1) c)) ∧ Below w.heap.size w W)
      (pre ++ [x]) W .ret u (W.setCell ⟨w.heap.size + 1 + 1, 0, none⟩ (.slice A (x.1 + 1) c)) := fun u h =>
      ⟨(KeepsOthers.setCell _ _ _).from _, ⟨rfl, pre, x, rfl, hp, h, b2'.set _⟩, hBw.setCell (p := ⟨w.heap.size + 1 + 1, 0, none⟩) (show w.heap.size ≤ w.heap.size + 1 + 1 by omega) _⟩
    have hpn : ∀ u, v < ds[x].1 → ownPostG W0.heap.size (Below W0.heap.size)
      (fun (pre : List (Fin ds.length)) W => (∀ x ∈ pre, v < ds[x].1) ∧ Below W0.heap.size W0 W)
      (fun jc (pre : List (Fin ds.length)) W => (jc = .ret ∧ ∃ (ini : List (Fin ds.length)) (last : Fin ds.length), pre = ini ++ [last] ∧ (∀ x ∈ ini, v < ds[x].1) ∧ ds[last].1 ≤ v ∧ Boxed W (w.heap.size + 1 + 1) 85 (.slice A (last.1 + 1) c)) ∧ Below w.heap.size w W)
      (pre ++ [x]) W .normal u W := fun u h => ⟨KeepsFrom.refl _ _, Below.refl _ _, fun y hy => by
        rcases List.mem_append.1 hy with hy | hy
        · exact hp y hy
        · simp at hy; subst hy; exact h, hBW⟩
    obtain ⟨i, hi⟩ := x
    simp only [Fin.getElem_fin] at c0 ⊢
    simp only at hx1
    simp only at hpx hpn
    clear hp
    have hpx1 := fun u (h : ds[i].1 ≤ v) => hpx u h
    have hpn1 := fun u (h : v < ds[i].1) => hpn u h
    clear hpx hpn
    clear hsz hsz2
    obtain ⟨X, hX⟩ : ∃ X, X = ds[i] := ⟨_, rfl⟩
    rw [← hX] at c0 hpx1 hpn1 ⊢
    clear hX
    obtain ⟨xv, xk, xx, xy⟩ := X
    simp only at c0 hpx1 hpn1
    have HPX := Lib.hid hpx1; clear hpx1
    have HPN := Lib.hid hpn1; clear hpn1
    have hi0 : (0 : Int) ≤ (i : Int) + 1 := by omega
    have hi1 : (i : Int) + 1 ≤ (c : Int) := by omega
    have hi2 : ((i : Int) + 1).toNat = i + 1 := by omega
    have hi3 : IntKind.i64.wrap ((i : Int) + 1) = (i : Int) + 1 := wrap_small _ (by omega) (by omega)
    by_cases hv : xv ≤ v
    · gi_wp2
      exact HPX.out _ hv
    · gi_wp2
      exact HPN.out _ (by omega)
  case done =>
    rintro D ys W hD rfl ⟨hp, hBW⟩ hK
    have b2' : Boxed W (w.heap.size + 1 + 1) 85 (.slice none 0 0) := (hBW.block _ (by omega)).trans b2
    have hBw : Below w.heap.size w W := hB0.trans (hBW.mono (by omega))
    have d2 := b2'.cell
    have f2 := b2'.frozen
    have hall : ∀ i (_ : i < ds.length), v < ds[i].1 := fun i hi => hp ⟨i, hi⟩ (bk_mem _ (by simp; omega))
    have HALL := Lib.hid hall; clear hall hp
    gi_wp2
    have hK' := (KeepsOthers.setCell W ⟨w.heap.size + 1 + 1, 0, none⟩ (.slice none 0 0)).same D _ hK rfl
    refine ⟨by simp, .inl ⟨_, _, rfl, run_takeDeferred hK', ?_⟩⟩
    have hc5 := cell_kept (World.cell?_setCell_same' W ⟨w.heap.size + 1 + 1, 0, none⟩ (.slice none 0 0) (by rw [d2]; rfl)) (grownBy_putObj' _ D (.deferred none)) (fun r e => by cases e; exact ⟨_, hK', rfl⟩)
    refine ⟨.slice none 0 0, ?_, .inl ⟨rfl, HALL.out⟩, (hBw.setCell (p := ⟨w.heap.size + 1 + 1, 0, none⟩) (show w.heap.size ≤ w.heap.size + 1 + 1 by omega) _).trans (belowK_b (w := w) (Nat.le_refl _) _ D _ _ (by omega) hK' rfl rfl)⟩
    simp [results, Tryz.f54, go_sem, hc5]
  case stop =>
    rintro D jc pre W hD ⟨m, hm, rfl⟩ ⟨⟨rfl, ini, last, e1, e2, e3, b2'⟩, hBw⟩ hK
    have hini := bk_last hm e1.symm
    have d2 := b2'.cell
    gi_wp2
    refine ⟨by simp, .inl ⟨_, _, rfl, run_takeDeferred hK, ?_⟩⟩
    have hc5 := cell_kept d2 (grownBy_putObj' _ D (.deferred none)) (fun r e => by cases e; exact ⟨_, hK, rfl⟩)
    refine ⟨.slice A (last.1 + 1) c, ?_, .inr ⟨A, c, rfl, last.1, last.2, rfl, e3, fun j hj hij => e2 ⟨j, hj⟩ (by rw [hini]; exact bk_mem _ (by simp; omega))⟩, hBw.trans (belowK_b (w := w) (Nat.le_refl _) _ D _ _ (by omega) hK rfl rfl)⟩
    simp [results, Tryz.f54, go_sem, hc5]

theorem upTo_any (q : Nat) (f0 f1 bv dv : Value) (ds : List Dd) (v : Int) (w : World) (hb : Whole w q 87 [f0, f1, bv, dv]) (hd : RdD w w.heap.size dv ds) (hr : Rise ds) (hreach : ds.length < 4611686018427387904) :
    Calls Tryz.prog 54 #[.pointer (some ⟨q, 0, none⟩), .int .i64 v] w fun e w' => ∃ A c, e = .returned (.slice A (cnt ds v) c) ∧ RdD w' w'.heap.size (.slice A (cnt ds v) c) (ds.take (cnt ds v)) ∧ Below w.heap.size w w' := by
  refine ((callsIn_wide (n := 6)).1 (upTo_in Fence.wide 6 trivial trivial trivial rfl (by omega) q f0 f1 bv dv ds v w hb hd hreach)).mono ?_
  rintro e w' ⟨h | ⟨A, c, rfl, i, hi, rfl, h1, h2⟩, hb'⟩
  · obtain ⟨rfl, h⟩ := h
    have e0 : cnt ds v = 0 := cnt_zero fun j hj => by have := h j hj; omega
    rw [e0]
    exact ⟨none, 0, rfl, Rd.none_ _ _ _ _, hb'⟩
  · have e0 : cnt ds v = i + 1 := cnt_at hr hi h1 fun j hj hij => by have := h2 j hj hij; omega
    rw [e0]
    exact ⟨A, c, rfl, ((hd.below hb' (Nat.le_refl _)).mono hb'.size).take (i + 1) (by omega), hb'⟩
end Go.Proofs.YtbifnogocmgddaaGreat
