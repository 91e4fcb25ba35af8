/- Pairs behind changes: slices.Clone, after. -/
import Derived.Test.YtpfhkijnaiopoaaReplace
import Derived.Test.YtpfhkijnaiopoaaOneM
import Derived.Test.YtpfhkijnaiopoaaPSound
import Derived.Lib.SliceRun
namespace Go.Proofs.Ytpfhkijnaiopoaa
open Go.RowKit
attribute [local go_sem] less_eq same_eq le_eq ge_eq gt_eq

set_option maxHeartbeats 2000000 in
set_option maxRecDepth 100000 in
theorem clone_any (l : List (K × K)) (v : Value) (w : World) (hv : RdP w w.heap.size v l) (hlen : l.length ≤ 7036874416000) :
    Calls Try.prog 56 #[v] w fun e w' => ∃ A' c', e = .returned (.slice A' l.length c') ∧ OwnP w' w.heap.size (.slice A' l.length c') l ∧ Below w.heap.size w w' := by
  obtain ⟨A, c, rfl, hc, hi⟩ := id hv
  have q22 : ∀ (w : World) (a : Option Addr) (n c n' c' : Nat), (binOp .eql 22 (.slice a n c) (.slice none n' c')).run Try.prog w = .ok (.bool a.isNone) w := fun w a n c n' c' => Lib.run_eql_slice_nil w _ _ a n c n' c' Try.underlying22
  cases A with
  | none =>
    obtain rfl : l = [] := by
      cases l with
      | nil => rfl
      | cons x r => obtain ⟨b, o, h, _⟩ := hi 0 (by simp); cases h
    go_enter Try.func56, Try.ntmps56
    go_wp2_with fail
    go_ret
    exact ⟨none, 0, rfl, Own.nil _ _, Below.refl _ _⟩
  | some a =>
    have HV := Lib.hid hv; clear hv hi
    have hown := Own.empty (enc := cellsS) (k := 2) (e := 56) w w.heap.size (Nat.le_refl _)
    have HO := Lib.hid hown; clear hown
    obtain ⟨i0, hi, hz0, hz1, hz2⟩ := info_pairE
    go_enter Try.func56, Try.ntmps56
    go_wp2_with (at_builtin; go_must (refine BigFrame.wpList_want rfl fun K2 hK => ?_; refine wp_addAny (enc := cellsS) (k := 2) 22 56 32 i0 _ Try.underlying22 hi hz0 hz1 hz2 rfl (by decide) cellsS_len cellsS_one _ _ rfl w.heap.size _ [] rfl HO.out (w.heap.size + 1) _ l rfl ?c0 (by unfold maxLen; simp; omega) (by simp; omega) (by simp) ?_))
    case c0 => exact (HV.out.below ((Below.refl _ w).alloc (Nat.le_refl _) _) (Nat.le_refl _)).mono (Nat.le_succ _)
    intro A' c' w1 h1 h2
    have HO1 := Lib.hid h1; clear h1
    have HB1 := Lib.hid (HO.out.grown ((Below.refl w.heap.size w).alloc (Nat.le_refl _) _) h2 (Nat.le_refl _) (by simp)); clear h2
    refine hK _ _ ?_
    clear hK
    go_wp2_with fail
    go_ret
    exact ⟨A', c', rfl, HO1.out, HB1.out⟩

theorem OneAt.below {w w' : World} {v vp : Value} {p : List (K × K)} (h : OneAt w v p vp) (hb : Below w.heap.size w w') : OneAt w' v p vp := by
  rcases h with h | ⟨x, vb, h1, h2, h3, h4⟩
  · exact .inl h
  · exact .inr ⟨x, vb, h1, h2, h3.below hb h3.size, h4⟩
theorem applyP_take_succ (l : List (K × K)) (cs : List Chg) (j : Nat) (h : j < cs.length) : applyP l (cs.take (j + 1)) = oneP (applyP l (cs.take j)) cs[j] := by
  unfold applyP
  rw [List.take_succ_eq_append_getElem h, List.foldl_append]
  rfl
theorem applyP_length (l : List (K × K)) : ∀ cs : List Chg, (applyP l cs).length ≤ l.length + cs.length
  | [] => by simp [applyP]
  | c :: r => by
    have h1 := oneP_len l c
    have h2 := applyP_length (oneP l c) r
    simp only [applyP, List.foldl_cons, List.length_cons] at h2 ⊢
    omega

set_option maxHeartbeats 8000000 in
set_option maxRecDepth 100000 in
theorem after_any (l : List (K × K)) (cs : List Chg) (hr : Rises l) (hcs : ∀ c ∈ cs, checkAns c = 0) (hl : l.length + cs.length ≤ 7036874416000) (v vc : Value) (w : World) (hv : RdP w w.heap.size v l) (hvc : RdC w w.heap.size vc cs) :
    Calls Try.prog 48 #[v, vc] w fun e w' => ∃ A' c', e = .returned (.slice A' (applyP l cs).length c') ∧ OwnP w' w.heap.size (.slice A' (applyP l cs).length c') (applyP l cs) ∧ Below w.heap.size w w' := by
  have hclone := clone_any l v w hv (by omega)
  obtain ⟨A, c, rfl, hc, hi⟩ := hvc.at
  obtain ⟨g, hg⟩ : ∃ g, g = w.heap.size := ⟨_, rfl⟩
  rw [← hg] at hclone
  have hi2 : ∀ i (_ : i < cs.length), ∃ b o, A = some ⟨b, o, none⟩ ∧ ∀ W, Below g w W → W.cell? ⟨b, o + i * 3, none⟩ = some (.int .i64 cs[i].kind) ∧ W.cell? ⟨b, o + i * 3 + 1, none⟩ = some (.string cs[i].key) ∧ W.cell? ⟨b, o + i * 3 + 2, none⟩ = some (.string cs[i].val) := fun i h => by
    obtain ⟨b, o, hA, hbB, k0, k1, k2⟩ := hi i h
    rw [← hg] at hbB
    exact ⟨b, o, hA, fun W hW => ⟨(hW.cell (p := ⟨b, _, none⟩) hbB).trans k0, (hW.cell (p := ⟨b, _, none⟩) hbB).trans k1, (hW.cell (p := ⟨b, _, none⟩) hbB).trans k2⟩⟩
  have HG := Lib.hid hg; clear hg
  have HI := Lib.hid hi2; clear hi2 hi
  have HCL := Lib.hid hclone; clear hclone
  have HR := Lib.hid hr; clear hr
  have HCS := Lib.hid hcs; clear hcs
  clear hv hvc
  go_enter Try.func48, Try.ntmps48
  go_wp2_with fail
  refine HCL.out.mono ?_
  rintro e w1 ⟨A1, c1, rfl, ho1, hb1⟩
  have HO1 := Lib.hid ho1; clear ho1
  have HB1 := Lib.hid hb1; clear hb1
  go_wp2_with fail
  go_loopw [5, 14] (fun ov iv wr => ∃ (j : Nat) (A' : Option Addr) (c' : Nat) (L : List (K × K)), j ≤ cs.length ∧ iv = .int .i64 j ∧ ov = .slice A' L.length c' ∧ Hid (L = applyP l (cs.take j)) ∧ Hid (OwnP wr g (.slice A' L.length c') L) ∧ Hid (Below g w wr)) (fun _ iv _ => cs.length - (intOf iv).toNat)
  case atStart => exact ⟨0, A1, c1, l, Nat.zero_le _, rfl, rfl, Lib.hid rfl, HO1, HB1⟩
  case round =>
    obtain ⟨j, A', c', L, hj, rfl, rfl, HL, HO, HB⟩ := hrel
    by_cases hlt : j < cs.length
    · obtain ⟨b, o, rfl, hcell⟩ := HI.out j hlt
      obtain ⟨k0, k1, k2⟩ := hcell wr HB.out
      have hck := HCS.out cs[j] (List.getElem_mem hlt)
      have hsz := check_size hck
      have hst : oneP L cs[j] = applyP l (cs.take (j + 1)) := by rw [applyP_take_succ l cs j hlt, ← HL.out]
      have hrs : Rises L := by rw [HL.out]; exact rises_applyP HR.out _
      have hlen : L.length + 1 ≤ 7036874417000 := by
        have := applyP_length l (cs.take j)
        rw [← HL.out, List.length_take] at this
        omega
      have hrep := oneP_replace hrs hck
      rw [hst] at hrep
      have hple := pos_mono (l := L) (cspan_le hck)
      have hpl := pos_le L (cspan cs[j]).2
      clear hst hcell
      generalize cs[j] = z at k0 k1 k2 hck hsz hrep hple hpl
      have hrch := fun W => reach_any z W (by omega)
      generalize cspan z = s at hrch hrep hple hpl
      obtain ⟨kz, xz, yz⟩ := z
      unfold inOf at hrep
      unfold cval spv at hrch
      simp only at k0 k1 k2 hrep hrch
      obtain ⟨s1, s2⟩ := s
      simp only at hrep hple hpl hrch
      have HREP := Lib.hid hrep; clear hrep
      have HRC := Lib.hid hrch; clear hrch
      have HRS := Lib.hid hrs; clear hrs
      clear hck hsz
      have hplc := fun k W (h : RdP W W.heap.size (.slice A' L.length c') L) => place_any L HRS.out k _ W h (by omega)
      have HPL := Lib.hid hplc; clear hplc
      go_wp2_with fail
      refine (HRC.out _).mono ?_
      rintro e w2 ⟨rfl, hb2⟩
      have hgr : g ≤ wr.heap.size := Nat.le_trans (by rw [HG.out]; exact Nat.le_refl _) HB.out.size
      have hw2 : Whole w2 wr.heap.size 67 [.int .i64 kz, .string xz, .string yz] := (Whole.fresh wr 67 [.int .i64 kz, .string xz, .string yz]).below hb2 (by simp)
      have hlt2 : wr.heap.size < w2.heap.size := hw2.size
      have HO2 := Lib.hid ((HO.out.alloc (.cells #[.int .i64 kz, .string xz, .string yz] 67)).below hb2 (Nat.le_refl _))
      have HB2 := Lib.hid ((HB.out.alloc hgr _).trans (hb2.mono (by rw [World.size_alloc]; omega)))
      have m0 := hw2.cell 0 _ rfl
      have m1 := hw2.cell 1 _ rfl
      have m2 := hw2.cell 2 _ rfl
      have hg2 : g ≤ w2.heap.size := by omega
      clear hb2 hw2 k0 k1 k2
      by_cases hk : kz = 1
      · subst hk
        obtain ⟨P, hP⟩ : ∃ P, P = [(xz, yz)] := ⟨_, rfl⟩
        obtain ⟨L', hL'⟩ : ∃ L', L' = L.take (pos L s1) ++ P ++ L.drop (pos L s2) := ⟨_, rfl⟩
        have hrp := fun W vp h1 h2 h3 => sreplace_any L (pos L s1) (pos L s2) hple hpl P (.slice A' L.length c') vp W g h1 h2 h3 hlen
        simp only [← hL'] at hrp
        have HRP := Lib.hid hrp; clear hrp
        have hLP : L' = (L.take (pos L s1) ++ if (1 : Int) = 1 then [(xz, yz)] else []) ++ L.drop (pos L s2) := by rw [hL', hP, if_pos rfl]
        have HLP := Lib.hid hLP; clear hLP hL'
        go_wp2_with fail
        obtain ⟨w3, hw3⟩ : ∃ w3, w3 = (w2.alloc (.cells #[.string s1, .string s2] 33)).alloc (.cells #[.string xz, .string yz] 56) := ⟨_, rfl⟩
        rw [← hw3]
        have hg3 : Whole w3 w2.heap.size 33 [.string s1, .string s2] := by rw [hw3]; exact (Whole.fresh w2 33 [.string s1, .string s2]).alloc _
        have ho3 : OwnP w3 g (.slice A' L.length c') L := by rw [hw3]; exact (HO2.out.alloc _).alloc _
        have hb3 : Below g w w3 := by rw [hw3]; exact (HB2.out.alloc hg2 _).alloc (by rw [World.size_alloc]; omega) _
        have hv3 : OneAt w3 (.slice A' L.length c') P (.slice (some ⟨w2.heap.size + 1, 0, none⟩) 1 1) := .inr ⟨(xz, yz), w2.heap.size + 1, hP, rfl, by
          rw [hw3]
          have h := Whole.fresh (w2.alloc (.cells #[.string s1, .string s2] 33)) 56 [.string xz, .string yz]
          rw [World.size_alloc] at h
          exact h, fun h => by have h2 := (HO2.out.low h.symm).2; omega⟩
        have HG8 := Lib.hid hg3; clear hg3
        have HO3 := Lib.hid ho3; clear ho3
        have HB3 := Lib.hid hb3; clear hb3
        have HV3 := Lib.hid hv3; clear hv3
        clear hw3 m0 m1 m2 hP HO2 HB2
        obtain ⟨vp, hvp⟩ : ∃ vp, vp = Value.slice (some ⟨w2.heap.size + 1, 0, none⟩) 1 1 := ⟨_, rfl⟩
        rw [← hvp] at HV3
        obtain ⟨G8, hG8⟩ : ∃ G8, G8 = w2.heap.size := ⟨_, rfl⟩
        rw [← hG8] at HG8 hvp ⊢
        clear hG8
        rw [← hvp]
        clear hvp
        refine wp_region_plan (S := fun W => Below g w W ∧ Whole W G8 33 [.string s1, .string s2]) [(true, 0), (true, 1), (true, 2), (true, 3), (true, 5), (true, 6), (true, 7), (true, 9), (false, 4), (false, 8), (false, 10), (true, 11)] (by kernel_rfl) (by kernel_rfl) (fun _ _ d _ _ h => by cases d <;> exact h) ⟨HB3.out.drew, HG8.out.drew⟩ ?_
        have HSP := Lib.hid (fun W (hW : Below g w W ∧ Whole W G8 33 [.string s1, .string s2]) => (⟨hW.2.cell 0 _ rfl, hW.2.cell 1 _ rfl⟩ : W.cell? ⟨G8, 0, none⟩ = some (.string s1) ∧ W.cell? ⟨G8, 1, none⟩ = some (.string s2)))
        repeat (refine Plan.take (v := ?_) rfl rfl ?_ ?_; rotate_left; (focus (intro W hW; obtain ⟨q0, q1⟩ := HSP.out W hW; go_simp; (try with_reducible rfl); done)); (try simp only [Act.put, List.setIfInBounds_toArray, List.set_cons_zero, List.set_cons_succ]))
        have hO4 : OwnP w3.drew g (.slice A' L.length c') L := HO3.out.drew
        have hV4 : OneAt w3.drew (.slice A' L.length c') P vp := HV3.out
        have hG4 := HG8.out.drew
        have hB4 := HB3.out.drew
        generalize w3.drew = w4 at hO4 hV4 hG4 hB4 ⊢
        have HO4 := Lib.hid hO4; clear hO4
        have HV4 := Lib.hid hV4; clear hV4
        have HG4 := Lib.hid hG4; clear hG4
        have HB4 := Lib.hid hB4; clear hB4
        clear HO3 HV3 HG8 HB3
        refine Plan.step rfl rfl (fun Kk hK => ?_)
        go_simp
        refine (HPL.out s1 w4 (HO4.out.rd cellsS_len)).mono ?_
        rintro e w5 ⟨rfl, hb5⟩
        have HG5 := Lib.hid (HG4.out.below hb5 HG4.out.size)
        have HB5 := Lib.hid (HB4.out.trans (hb5.mono (Nat.le_trans (by rw [HG.out]; exact Nat.le_refl _) HB4.out.size)))
        refine hK.out _ _ ⟨HB5.out, HG5.out⟩ ?_
        clear hK Kk
        have HO5 := Lib.hid (HO4.out.below hb5 (Nat.le_refl _))
        have HV5 := Lib.hid (HV4.out.below hb5)
        clear hb5 HO4 HV4 HG4 HB4
        (try simp only [Act.put, List.setIfInBounds_toArray, List.set_cons_zero, List.set_cons_succ])
        refine Plan.step rfl rfl (fun Kk hK => ?_)
        go_simp
        refine (HPL.out s2 w5 (HO5.out.rd cellsS_len)).mono ?_
        rintro e w6 ⟨rfl, hb6⟩
        have HG6 := Lib.hid (HG5.out.below hb6 HG5.out.size)
        have HB6 := Lib.hid (HB5.out.trans (hb6.mono (Nat.le_trans (by rw [HG.out]; exact Nat.le_refl _) HB5.out.size)))
        refine hK.out _ _ ⟨HB6.out, HG6.out⟩ ?_
        clear hK Kk
        have HO6 := Lib.hid (HO5.out.below hb6 (Nat.le_refl _))
        have HV6 := Lib.hid (HV5.out.below hb6)
        clear hb6 HO5 HV5 HG5 HB5
        (try simp only [Act.put, List.setIfInBounds_toArray, List.set_cons_zero, List.set_cons_succ])
        refine Plan.step rfl rfl (fun Kk hK => ?_)
        go_simp
        have hg6 : g ≤ w6.heap.size := Nat.le_trans (by rw [HG.out]; exact Nat.le_refl _) HB6.out.size
        refine (HRP.out w6 vp HO6.out hg6 HV6.out).mono ?_
        rintro e w7 ⟨A7, c7, rfl, ho7, hg7⟩
        have HG7 := Lib.hid (HG6.out.grown hg7 (HO6.out.apart HG6.out (by decide)))
        have HB7 := Lib.hid (HO6.out.grown HB6.out hg7 (Nat.le_refl _) hg6)
        refine hK.out _ _ ⟨HB7.out, HG7.out⟩ ?_
        clear hK Kk
        have HO7 := Lib.hid ho7; clear ho7 hg7 hg6
        clear HO6 HV6 HG6 HB6
        (try simp only [Act.put, List.setIfInBounds_toArray, List.set_cons_zero, List.set_cons_succ])
        (refine Plan.take (v := ?_) rfl rfl ?_ ?_; rotate_left; (focus (intro W hW; obtain ⟨q0, q1⟩ := HSP.out W hW; go_simp; (try with_reducible rfl); done)); (try simp only [Act.put, List.setIfInBounds_toArray, List.set_cons_zero, List.set_cons_succ]))
        simp only [Plan]
        go_wp2_with fail
        go_roundw
        case rel => exact ⟨j + 1, A7, c7, L', by omega, by go_num, rfl, Lib.hid (by rw [HREP.out, HLP.out]), HO7, HB7⟩
        case measure => simp [intOf]; omega
      · obtain ⟨P, hP⟩ : ∃ P : List (K × K), P = [] := ⟨_, rfl⟩
        obtain ⟨L', hL'⟩ : ∃ L', L' = L.take (pos L s1) ++ P ++ L.drop (pos L s2) := ⟨_, rfl⟩
        have hrp := fun W vp h1 h2 h3 => sreplace_any L (pos L s1) (pos L s2) hple hpl P (.slice A' L.length c') vp W g h1 h2 h3 hlen
        simp only [← hL'] at hrp
        have HRP := Lib.hid hrp; clear hrp
        have hLP : L' = (L.take (pos L s1) ++ if kz = 1 then [(xz, yz)] else []) ++ L.drop (pos L s2) := by rw [hL', hP, if_neg hk]
        have HLP := Lib.hid hLP; clear hLP hL'
        go_wp2_with fail
        obtain ⟨w3, hw3⟩ : ∃ w3, w3 = w2.alloc (.cells #[.string s1, .string s2] 33) := ⟨_, rfl⟩
        rw [← hw3]
        have hg3 : Whole w3 w2.heap.size 33 [.string s1, .string s2] := by rw [hw3]; exact (Whole.fresh w2 33 [.string s1, .string s2])
        have ho3 : OwnP w3 g (.slice A' L.length c') L := by rw [hw3]; exact HO2.out.alloc _
        have hb3 : Below g w w3 := by rw [hw3]; exact HB2.out.alloc hg2 _
        have hv3 : OneAt w3 (.slice A' L.length c') P (.slice none 0 0) := .inl ⟨hP, rfl⟩
        have HG8 := Lib.hid hg3; clear hg3
        have HO3 := Lib.hid ho3; clear ho3
        have HB3 := Lib.hid hb3; clear hb3
        have HV3 := Lib.hid hv3; clear hv3
        clear hw3 m0 m1 m2 hP HO2 HB2
        obtain ⟨vp, hvp⟩ : ∃ vp, vp = Value.slice none 0 0 := ⟨_, rfl⟩
        rw [← hvp] at HV3
        obtain ⟨G8, hG8⟩ : ∃ G8, G8 = w2.heap.size := ⟨_, rfl⟩
        rw [← hG8] at HG8 ⊢
        clear hG8
        refine wp_region_plan (S := fun W => Below g w W ∧ Whole W G8 33 [.string s1, .string s2]) [(true, 0), (true, 1), (true, 2), (true, 3), (true, 5), (true, 6), (true, 7), (true, 9), (false, 4), (false, 8), (false, 10), (true, 11)] (by kernel_rfl) (by kernel_rfl) (fun _ _ d _ _ h => by cases d <;> exact h) ⟨HB3.out.drew, HG8.out.drew⟩ ?_
        have HSP := Lib.hid (fun W (hW : Below g w W ∧ Whole W G8 33 [.string s1, .string s2]) => (⟨hW.2.cell 0 _ rfl, hW.2.cell 1 _ rfl⟩ : W.cell? ⟨G8, 0, none⟩ = some (.string s1) ∧ W.cell? ⟨G8, 1, none⟩ = some (.string s2)))
        repeat (refine Plan.take (v := ?_) rfl rfl ?_ ?_; rotate_left; (focus (intro W hW; obtain ⟨q0, q1⟩ := HSP.out W hW; go_simp; (try with_reducible rfl); done)); (try simp only [Act.put, List.setIfInBounds_toArray, List.set_cons_zero, List.set_cons_succ]))
        have hO4 : OwnP w3.drew g (.slice A' L.length c') L := HO3.out.drew
        have hV4 : OneAt w3.drew (.slice A' L.length c') P vp := HV3.out
        have hG4 := HG8.out.drew
        have hB4 := HB3.out.drew
        generalize w3.drew = w4 at hO4 hV4 hG4 hB4 ⊢
        have HO4 := Lib.hid hO4; clear hO4
        have HV4 := Lib.hid hV4; clear hV4
        have HG4 := Lib.hid hG4; clear hG4
        have HB4 := Lib.hid hB4; clear hB4
        clear HO3 HV3 HG8 HB3
        refine Plan.step rfl rfl (fun Kk hK => ?_)
        go_simp
        refine (HPL.out s1 w4 (HO4.out.rd cellsS_len)).mono ?_
        rintro e w5 ⟨rfl, hb5⟩
        have HG5 := Lib.hid (HG4.out.below hb5 HG4.out.size)
        have HB5 := Lib.hid (HB4.out.trans (hb5.mono (Nat.le_trans (by rw [HG.out]; exact Nat.le_refl _) HB4.out.size)))
        refine hK.out _ _ ⟨HB5.out, HG5.out⟩ ?_
        clear hK Kk
        have HO5 := Lib.hid (HO4.out.below hb5 (Nat.le_refl _))
        have HV5 := Lib.hid (HV4.out.below hb5)
        clear hb5 HO4 HV4 HG4 HB4
        (try simp only [Act.put, List.setIfInBounds_toArray, List.set_cons_zero, List.set_cons_succ])
        refine Plan.step rfl rfl (fun Kk hK => ?_)
        go_simp
        refine (HPL.out s2 w5 (HO5.out.rd cellsS_len)).mono ?_
        rintro e w6 ⟨rfl, hb6⟩
        have HG6 := Lib.hid (HG5.out.below hb6 HG5.out.size)
        have HB6 := Lib.hid (HB5.out.trans (hb6.mono (Nat.le_trans (by rw [HG.out]; exact Nat.le_refl _) HB5.out.size)))
        refine hK.out _ _ ⟨HB6.out, HG6.out⟩ ?_
        clear hK Kk
        have HO6 := Lib.hid (HO5.out.below hb6 (Nat.le_refl _))
        have HV6 := Lib.hid (HV5.out.below hb6)
        clear hb6 HO5 HV5 HG5 HB5
        (try simp only [Act.put, List.setIfInBounds_toArray, List.set_cons_zero, List.set_cons_succ])
        refine Plan.step rfl rfl (fun Kk hK => ?_)
        go_simp
        have hg6 : g ≤ w6.heap.size := Nat.le_trans (by rw [HG.out]; exact Nat.le_refl _) HB6.out.size
        refine (HRP.out w6 _ HO6.out hg6 (hvp ▸ HV6.out)).mono ?_
        rintro e w7 ⟨A7, c7, rfl, ho7, hg7⟩
        have HG7 := Lib.hid (HG6.out.grown hg7 (HO6.out.apart HG6.out (by decide)))
        have HB7 := Lib.hid (HO6.out.grown HB6.out hg7 (Nat.le_refl _) hg6)
        refine hK.out _ _ ⟨HB7.out, HG7.out⟩ ?_
        clear hK Kk
        have HO7 := Lib.hid ho7; clear ho7 hg7 hg6
        clear HO6 HV6 HG6 HB6
        (try simp only [Act.put, List.setIfInBounds_toArray, List.set_cons_zero, List.set_cons_succ])
        (refine Plan.take (v := ?_) rfl rfl ?_ ?_; rotate_left; (focus (intro W hW; obtain ⟨q0, q1⟩ := HSP.out W hW; go_simp; (try with_reducible rfl); done)); (try simp only [Act.put, List.setIfInBounds_toArray, List.set_cons_zero, List.set_cons_succ]))
        simp only [Plan]
        go_wp2_with fail
        go_roundw
        case rel => exact ⟨j + 1, A7, c7, L', by omega, by go_num, rfl, Lib.hid (by rw [HREP.out, HLP.out]), HO7, HB7⟩
        case measure => simp [intOf]; omega
    · obtain rfl : j = cs.length := by omega
      rw [List.take_length] at HL
      have hO := HO.out
      rw [HL.out] at hO
      have HO2 := Lib.hid hO; clear hO
      go_wp2_with fail
      go_ret
      refine ⟨A', c', by rw [← HL.out]; rfl, by have h := HO2.out; rwa [HG.out] at h, by have h := HB.out; rwa [HG.out] at h⟩
end Go.Proofs.Ytpfhkijnaiopoaa
