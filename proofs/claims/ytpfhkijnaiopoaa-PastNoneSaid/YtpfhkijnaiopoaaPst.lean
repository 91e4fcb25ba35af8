/- The program's Past: From, List, Forget, Back; all calls of it. -/
import Derived.Test.YtpfhkijnaiopoaaRs
import Derived.Test.YtpfhkijnaiopoaaPAdd
import Derived.Test.YtpfhkijnaiopoaaPGu
import Derived.Test.YtpfhkijnaiopoaaPDf
import Derived.Lib.MinMax
namespace Go.Proofs.Ytpfhkijnaiopoaa
open Go.RowKit

theorem RdG.take {α : Type} {enc : α → List Value} {k : Nat} {w : World} {B : Nat} {G : Nat → Prop} {A : Option Addr} {c m : Nat} {l : List α} (h : RdG enc k w B G (.slice A m c) l) (n : Nat) (hn : n ≤ l.length) : RdG enc k w B G (.slice A n c) (l.take n) := by
  obtain ⟨A0, c0, hv, hc, hi⟩ := h
  injection hv with h1 h2 h3
  subst h1 h3
  refine ⟨A, c, by rw [List.length_take, Nat.min_eq_left hn], by rw [List.length_take]; omega, fun i hs => ?_⟩
  have hs' : i < l.length := by rw [List.length_take] at hs; omega
  obtain ⟨b, o, hA, hb, hg, h1⟩ := hi i hs'
  exact ⟨b, o, hA, hb, hg, fun j u hu => h1 j u (by rwa [List.getElem_take] at hu)⟩

set_option maxHeartbeats 2000000 in
theorem pfrom_any (v : Int) (ps : Prs) (vp : Value) (w : World) (hv : I64 v) (h0 : 0 ≤ v) (hr : RdP w w.heap.size vp ps) (hs : soundP ps = true) (hn : ps.length ≤ many) :
    Calls Try.prog 10 #[.int .i64 v, vp] w fun e w' => ∃ q G, e = .returned (.tuple #[.pointer (some ⟨q, 0, none⟩), .int .i64 0]) ∧ PaAt w' w.heap.size q G ps.length (Pa.from_ v ps) ∧ Below w.heap.size w w' := by
  have hap := papply_any ps [] (fun p hp => by have := (soundP_spec hs).2 p hp; omega) (by simp) vp (.slice none 0 0) w hr (Rd.nil _ _) (by unfold many at hn; simp; omega)
  have hsz := hr
  obtain ⟨A, c, rfl, _, _⟩ := hr
  have HAP := Lib.hid hap; clear hap hsz
  have hv0 : ¬ v < 0 := by omega
  go_enter Try.func10, Try.ntmps10
  go_wp2_with fail
  refine HAP.out.mono ?_
  rintro e w1 ⟨v', qe, rfl, hb1, hai⟩
  have hq0 : qe = 0 ∧ OwnP w1 w.heap.size v' ps := by
    rcases hai with ⟨h1, h2, _⟩ | ⟨_, h2, _⟩ | ⟨_, _, h3, h4⟩
    · exact absurd h1 h2
    · rw [hs] at h2; cases h2
    · exact ⟨h3, h4⟩
  obtain ⟨rfl, ho1⟩ := hq0
  have HO1 := Lib.hid ho1; clear ho1 hai
  have HB1 := Lib.hid hb1; clear hb1
  have hvs : ∃ A' c', v' = .slice A' ps.length c' := by
    rcases HO1.out.form with ⟨h, h0⟩ | ⟨x, y, h, _⟩
    · exact ⟨none, 0, by rw [h, h0]; rfl⟩
    · exact ⟨_, _, h⟩
  obtain ⟨A', c', rfl⟩ := hvs
  go_wp2_with fail
  have hsz1 := HB1.out.size
  refine bodyPost_ret (v := .tuple #[.pointer (some ⟨w1.heap.size, 0, none⟩), .int .i64 0]) (by simp [results, Try.results10, go_sem]) rfl ⟨w1.heap.size, fun i => i = w1.heap.size ∨ Value.ownBlock (.slice A' ps.length c') = some i, rfl, ⟨⟨.slice A' ps.length c', .slice none 0 0, ps, [], Whole.fresh w1 _ [_, _, _, _], HO1.out.alloc _, Own.nil _ _, Gh.from_ hv hs hn, fun i hi => .inr hi, by simp [Value.ownBlock]⟩, .inl rfl, by simp; omega, ?_⟩, HB1.out.alloc hsz1 _⟩
  rintro i (rfl | hi)
  · simp; omega
  · have := HO1.out.low hi
    simp; omega
set_option maxHeartbeats 2000000 in
theorem pfrom_bad (v : Int) (ps : Prs) (vp : Value) (w : World) (hv : I64 v) (hr : RdP w w.heap.size vp ps) (hsm : ∀ p ∈ ps, p.1.size < 4611686018427387904 ∧ p.2.size < 4611686018427387904) (hn : ps.length ≤ many) (hb : v < 0 ∨ soundP ps = false) :
    Calls Try.prog 10 #[.int .i64 v, vp] w fun e w' => e = .returned (.tuple #[.pointer none, .int .i64 (if v < 0 then 1 else 2)]) ∧ Below w.heap.size w w' := by
  have hap := papply_any ps [] hsm (by simp) vp (.slice none 0 0) w hr (Rd.nil _ _) (by unfold many at hn; simp; omega)
  obtain ⟨A, c, rfl, _, _⟩ := hr
  have HAP := Lib.hid hap; clear hap
  by_cases hv0 : v < 0
  · rw [if_pos hv0]
    clear hb
    go_enter Try.func10, Try.ntmps10
    go_wp2_with fail
    exact bodyPost_ret (v := .tuple #[.pointer none, .int .i64 1]) (by simp [results, Try.results10, go_sem]) rfl ⟨rfl, Below.refl _ _⟩
  · rw [if_neg hv0]
    have hs := hb.resolve_left hv0
    clear hb
    go_enter Try.func10, Try.ntmps10
    go_wp2_with fail
    refine HAP.out.mono ?_
    rintro e w1 ⟨v', qe, rfl, hb1, hai⟩
    have hq0 : qe = 2 ∧ v' = .slice none 0 0 := by
      rcases hai with ⟨h1, h2, _⟩ | ⟨_, _, h3, h4⟩ | ⟨_, h2, _⟩
      · exact absurd h1 h2
      · exact ⟨h3, h4⟩
      · rw [hs] at h2; cases h2
    obtain ⟨rfl, rfl⟩ := hq0
    have HB1 := Lib.hid hb1; clear hb1 hai
    go_wp2_with fail
    exact bodyPost_ret (v := .tuple #[.pointer none, .int .i64 2]) (by simp [results, Try.results10, go_sem]) rfl ⟨rfl, HB1.out⟩

set_option maxHeartbeats 4000000 in
set_option maxRecDepth 100000 in
theorem plist_any (base q n : Nat) (G : Nat → Prop) (p : Pa) (s : K × K) (v most : Int) (w : World) (h : PaAt w base q G n p) (hv : I64 v) (hm : I64 most) (h1 : s.1.size < 4611686018427387904) (h2 : s.2.size < 4611686018427387904) :
    Calls Try.prog 18 #[.pointer (some ⟨q, 0, none⟩), spv s, .int .i64 v, .int .i64 most] w fun e w' => ∃ A c, e = .returned (.tuple #[.slice A (p.list s v most).1.length c, .int .i64 (p.list s v most).2]) ∧ RdPG w' w'.heap.size (fun i => G i ∨ Else w G i) (.slice A (p.list s v most).1.length c) (p.list s v most).1 ∧ Below w.heap.size w w' := by
  unfold spv
  obtain ⟨W1, hW1⟩ : ∃ W1, W1 = w.alloc (.cells #[.string s.1, .string s.2] 33) := ⟨_, rfl⟩
  have hB1 : Below w.heap.size w W1 := by rw [hW1]; exact (Below.refl _ w).alloc (Nat.le_refl _) _
  have hs1 : W1.heap.size = w.heap.size + 1 := by rw [hW1]; simp
  have hsp : Whole W1 w.heap.size 33 [.string s.1, .string s.2] := by rw [hW1]; exact Whole.fresh w _ [_, _]
  have hP := h.new hB1
  obtain ⟨bv, dv, bs, ds, hb, _⟩ := id hP.blk
  have hkn := known_any q p v bv dv W1 hb
  have hlow := h.low
  have hlen : (p.at_ v).length ≤ 3000000 ∨ p.known v ≠ 0 := by
    by_cases hk : p.known v = 0
    · left
      obtain ⟨_, _, bs2, ds2, _, _, _, hgh, _⟩ := h.blk
      have hf : p.first ≤ v := by
        unfold Pa.known at hk
        split at hk
        · cases hk
        · omega
      rw [hgh.link v hf]
      have h3 := applyP_len bs2 (chgs (upD ds2 v))
      rw [chgs_len] at h3
      have h4 : (upD ds2 v).length ≤ ds2.length := List.length_filter_le _ _
      have := hgh.len
      have := hgh.few
      unfold many at this
      omega
    · exact .inr hk
  have hfs : p.known v = 0 → p.first ≤ v := fun hk => by
    unfold Pa.known at hk
    split at hk
    · cases hk
    · omega
  have hat := fun hk => at_any base q n G p v W1 hP (hfs hk)
  have HAT := Lib.hid hat; clear hat hfs
  have HW1 := Lib.hid hW1; clear hW1
  have HKN := Lib.hid hkn; clear hkn
  have HSP := Lib.hid hsp; clear hsp hb hP
  unfold Pa.list
  by_cases hk : p.known v = 0
  · rw [if_neg (by simpa using hk)]
    rw [hk] at HKN
    have hat := HAT.out hk
    have hlen2 := hlen.resolve_right (by simpa using hk)
    clear HAT hlen hk
    generalize p.at_ v = L at hat hlen2 ⊢
    have HAT := Lib.hid hat; clear hat
    by_cases hm0 : most < 0
    · rw [if_pos hm0]
      clear HAT
      go_enter Try.func18, Try.ntmps18
      go_wp2_with fail
      rw [← HW1.out]
      refine HKN.out.mono ?_
      rintro e w2 ⟨rfl, rfl⟩
      go_wp2_with fail
      exact bodyPost_ret (v := .tuple #[.slice none 0 0, .int .i64 1]) (by simp [results, Try.results18, go_sem]) rfl ⟨none, 0, rfl, RdG.none_ _ _ _ _ _, hB1⟩
    · rw [if_neg hm0]
      have hfl : (L.filter fun x => hasB s x.1).length ≤ L.length := List.length_filter_le _ _
      go_enter Try.func18, Try.ntmps18
      go_wp2_with fail
      rw [← HW1.out]
      refine HKN.out.mono ?_
      rintro e w2 ⟨rfl, rfl⟩
      go_wp2_with fail
      refine HAT.out.mono ?_
      rintro e w3 ⟨v3, rfl, ho3, hb3⟩
      have hs3 := hb3.size
      have hsp3 := HSP.out.below hb3 (by omega)
      have hdf := deleteFunc_any s w.heap.size w2.heap.size L v3 w3 (by omega) (hsp3.cell 0 _ rfl) (hsp3.cell 1 _ rfl) ho3 hs3 (by omega)
      obtain ⟨F, hF⟩ : ∃ F, F = L.filter (fun x => hasB s x.1) := ⟨_, rfl⟩
      rw [← hF] at hdf hfl
      have HF := Lib.hid hF; clear hF
      have HDF := Lib.hid hdf; clear hdf
      have HB3 := Lib.hid (hB1.trans (hb3.mono (by omega)))
      clear ho3 hb3 hsp3
      go_wp2_with fail
      refine HDF.out.mono ?_
      rintro e w4 ⟨A4, c4, rfl, ho4, hb4⟩
      have hs4 : w2.heap.size ≤ w4.heap.size := Nat.le_trans hs3 hb4.size
      have HB4 := Lib.hid (HB3.out.trans (hb4.mono (by omega)))
      have hc4 : F.length ≤ c4 := by
        obtain ⟨A5, c5, e1, e2, _⟩ := ho4.rd cellsS_len
        injection e1 with _ _ e3
        omega
      have hrg : RdPG w4 w4.heap.size (fun i => G i ∨ Else w G i) (.slice A4 F.length c4) F := RdG.own cellsS_len ho4 (fun b hb1 _ _ hb2 => by
        rcases hb2 with hb2 | hb2
        · have := (hlow.2 b hb2).2; omega
        · have := hb2.2; omega)
      obtain ⟨k, hk⟩ : ∃ k : Nat, k = min most.toNat F.length := ⟨_, rfl⟩
      have hmn : min most (F.length : Int) = (k : Int) := by omega
      have hk1 : (k : Int) ≤ (c4 : Int) := by omega
      have hkl : (F.take most.toNat).length = k := by rw [List.length_take, hk]
      have htk : F.take most.toNat = F.take k := by rw [hk, List.take_eq_take_iff]; omega
      have HRG := Lib.hid (hrg.take k (by omega))
      rw [← htk] at HRG
      have HKL := Lib.hid hkl
      clear ho4 hb4 hrg hkl htk hk
      go_wp2_with fail
      exact bodyPost_ret (v := .tuple #[.slice A4 k c4, .int .i64 0]) (by simp [results, Try.results18, go_sem]) rfl ⟨A4, c4, by rw [← HF.out, HKL.out], by rw [← HF.out, HKL.out]; exact HRG.out, HB4.out⟩
  · rw [if_pos hk]
    clear HAT hlen
    generalize p.known v = r at HKN hk ⊢
    have hkb : (r == 0) = false := by simpa using hk
    go_enter Try.func18, Try.ntmps18
    go_wp2_with fail
    rw [← HW1.out]
    refine HKN.out.mono ?_
    rintro e w2 ⟨rfl, rfl⟩
    go_wp2_with fail
    exact bodyPost_ret (v := .tuple #[.slice none 0 0, .int .i64 r]) (by simp [results, Try.results18, go_sem]) rfl ⟨none, 0, rfl, RdG.none_ _ _ _ _ _, hB1⟩

set_option maxHeartbeats 4000000 in
set_option maxRecDepth 100000 in
theorem pforget_any (base q n : Nat) (G : Nat → Prop) (p : Pa) (v : Int) (w : World) (h : PaAt w base q G n p) (hv : I64 v) :
    Calls Try.prog 21 #[.pointer (some ⟨q, 0, none⟩), .int .i64 v] w fun e w' => e = .returned (.int .i64 (p.forget v).1) ∧ ∃ G', PaAt w' base q G' n (p.forget v).2 ∧ (∀ i, G' i → G i ∨ w.heap.size ≤ i) ∧ Mv G w w' := by
  have H0 := Lib.hid h
  by_cases h1 : p.last < v
  · have hf : p.forget v = (8, p) := by unfold Pa.forget; rw [if_pos h1]
    rw [hf]
    obtain ⟨bv, dv, bs, ds, hb, _⟩ := h.blk
    have c1 := hb.cell 1 _ rfl
    clear hb h
    go_enter Try.func21, Try.ntmps21
    go_wp2_with fail
    go_ret
    exact ⟨rfl, G, H0.out, fun _ h => .inl h, Mv.refl _ _⟩
  by_cases h2 : p.first < v
  · have hat := at_any base q n G p v w h (by omega)
    obtain ⟨⟨bv, dv, bs, ds, hb, hob, hod, hgh, hbg, hdg⟩, hq, hlow⟩ := h
    obtain ⟨p', e1, e2, e3, e4⟩ := hgh.forget h2 (by omega)
    rw [e1]
    have c0 := hb.cell 0 _ rfl
    have c1 := hb.cell 1 _ rfl
    have hlen := hgh.len
    have hfew := hgh.few
    unfold many at hfew
    have hr := hgh.rise
    have hup := fun f0 f1 bv W (h1 : Whole W q 65 [f0, f1, bv, dv]) (h2 : RdD W W.heap.size dv ds) => upTo_any q f0 f1 bv dv ds v W h1 h2 hr (by omega)
    have hkl := cnt_le ds v
    have hde := fun W (h1 : OwnD W base dv ds) => delete_any 0 (cnt ds v) base ds dv W (Nat.zero_le _) hkl h1
    rw [List.take_zero] at hde
    simp only [List.nil_append] at hde
    have htl : (ds.take (cnt ds v)).length = cnt ds v := by rw [List.length_take]; omega
    have hal : (p.at_ v).length ≤ n := by have := e4.len; omega
    generalize p.at_ v = L at hat e4 hal
    generalize ds.drop (cnt ds v) = D at hde e4
    generalize ds.take (cnt ds v) = U at hup htl
    generalize cnt ds v = k at hup hde htl hkl
    have HE4 := Lib.hid e4; clear e4
    have HUP := Lib.hid hup; clear hup
    have HDE := Lib.hid hde; clear hde
    have HAT := Lib.hid hat; clear hat
    have HB := Lib.hid hb; clear hb
    have HOD := Lib.hid hod; clear hod
    have HOB := Lib.hid hob; clear hob
    have HLOW := Lib.hid hlow; clear hlow
    have HDG := Lib.hid hdg; clear hdg
    have HQ := Lib.hid hq; clear hq
    have HE2 := Lib.hid e2; clear e2
    have HE3 := Lib.hid e3; clear e3
    clear hgh hbg e1 hr
    go_enter Try.func21, Try.ntmps21
    go_wp2_with fail
    refine HAT.out.mono ?_
    rintro e w1 ⟨v1, rfl, ho1, hb1⟩
    have hvs : ∃ A' c', v1 = .slice A' L.length c' := by
      rcases ho1.form with ⟨h, h0⟩ | ⟨x, y, h, _⟩
      · exact ⟨none, 0, by rw [h, h0]; rfl⟩
      · exact ⟨_, _, h⟩
    obtain ⟨A1, c1', rfl⟩ := hvs
    have hw1 := HB.out.below hb1 HB.out.size
    have q2 := hw1.cell 2 _ rfl
    have q2f := hw1.frozen 2
    have hs1 := hb1.size
    have HO1 := Lib.hid ho1; clear ho1
    have HB1 := Lib.hid hb1; clear hb1
    have HW1 := Lib.hid hw1; clear hw1
    go_wp2_with fail
    -- the region that lays down what is left
    obtain ⟨w2, hw2⟩ : ∃ w2, w2 = (w1.setCell ⟨q, 2, none⟩ (.slice A1 L.length c1')).drew := ⟨_, rfl⟩
    have g1 : Whole w2 q 65 [.int .i64 p.first, .int .i64 p.last, .slice A1 L.length c1', dv] := by rw [hw2]; exact (HW1.out.put 2 _).drew
    have g2 : OwnP w2 w.heap.size (.slice A1 L.length c1') L := by rw [hw2]; exact (HO1.out.put HW1.out (by decide) 2 _).drew
    have g3 : OwnD w2 base dv ds := by rw [hw2]; exact ((HOD.out.below HB1.out (Nat.le_refl _)).put HW1.out (by decide) 2 _).drew
    have g4 : Mv G w w2 := by rw [hw2]; exact ((Mv.of_new HB1.out G).setCell (p := ⟨q, 2, none⟩) (fun _ => HQ.out) _).drew
    have hs2 : w.heap.size ≤ w2.heap.size := g4.size
    refine wp_region_planF (fun W => Whole W q 65 [.int .i64 p.first, .int .i64 p.last, .slice A1 L.length c1', dv]) 12 [(true, 0), (true, 1), (true, 2), (true, 3), (true, 4), (true, 5), (true, 6), (false, 7), (true, 8), (false, 9), (false, 10), (true, 11), (false, 12)] (by kernel_rfl) (by kernel_rfl) (fun _ _ d _ _ h => by cases d <;> exact h) (by rw [← hw2]; exact g1) ?_
    rw [← hw2]
    clear hw2 q2 q2f c0 c1
    iterate 7 (refine PlanF.take (v := ?_) rfl rfl ?_ ?_; rotate_left; (focus (intro W hW; have m3 := hW.cell 3 _ rfl; go_simp; (try with_reducible rfl); done)); (try simp only [Act.put, List.setIfInBounds_toArray, List.set_cons_zero, List.set_cons_succ]))
    refine PlanF.step rfl rfl (fun Kk hK => ?_)
    go_simp
    refine (HUP.out _ _ _ w2 g1 (g3.rd encD_len)).mono ?_
    rintro e w3 ⟨A3, c3, rfl, _, hb3⟩
    have g1' := g1.below hb3 g1.size
    have g2' := g2.below hb3 (Nat.le_refl _)
    have g3' := g3.below hb3 (Nat.le_refl _)
    have g4' := g4.trans (Mv.of_new hb3 G) (fun _ _ h => h)
    have hs3 := hb3.size
    refine hK.out _ _ g1' ?_
    clear hK Kk hb3
    (try simp only [Act.put, List.setIfInBounds_toArray, List.set_cons_zero, List.set_cons_succ])
    iterate 1 (refine PlanF.take (v := ?_) rfl rfl ?_ ?_; rotate_left; (focus (intro W hW; go_simp; (try with_reducible rfl); done)); (try simp only [Act.put, List.setIfInBounds_toArray, List.set_cons_zero, List.set_cons_succ]))
    refine PlanF.step rfl rfl (fun Kk hK => ?_)
    go_simp
    refine (HDE.out w3 g3').mono ?_
    rintro e w4 ⟨A4, c4, rfl, ho4, hg4, hbk⟩
    have k1 := g1'.grown hg4 (g3'.apart g1' (by decide))
    have k2 := g2'.kept hg4 (g2'.two g3' (by decide))
    have k4 := g4'.grown hg4 (fun i _ he => HDG.out i he.symm)
    refine hK.out _ _ k1 ?_
    clear hK Kk
    (try simp only [Act.put, List.setIfInBounds_toArray, List.set_cons_zero, List.set_cons_succ])
    refine PlanF.step rfl rfl (fun Kk hK => ?_)
    go_simp
    refine hK.out _ _ k1 ?_
    clear hK Kk
    (try simp only [Act.put, List.setIfInBounds_toArray, List.set_cons_zero, List.set_cons_succ])
    iterate 1 (refine PlanF.take (v := ?_) rfl rfl ?_ ?_; rotate_left; (focus (intro W hW; go_simp; (try with_reducible rfl); done)); (try simp only [Act.put, List.setIfInBounds_toArray, List.set_cons_zero, List.set_cons_succ]))
    refine PlanF.last rfl rfl (fun Kk hK => ?_)
    have q3 := k1.cell 3 _ rfl
    have q3f := k1.frozen 3
    go_simp
    refine hK.out _ _ ?_
    clear hK Kk
    (try simp only [Act.put, List.setIfInBounds_toArray, List.set_cons_zero, List.set_cons_succ])
    have m1 := k1.put 3 (.slice A4 D.length c4)
    have m2 := k2.put k1 (by decide) 3 (.slice A4 D.length c4)
    have m3 := ho4.put k1 (by decide) 3 (.slice A4 D.length c4)
    have m4 := k4.setCell (p := ⟨q, 3, none⟩) (fun _ => HQ.out) (.slice A4 D.length c4)
    obtain ⟨w5, hw5⟩ : ∃ w5, w5 = w4.setCell ⟨q, 3, none⟩ (.slice A4 D.length c4) := ⟨_, rfl⟩
    rw [← hw5] at m1 m2 m3 m4 ⊢
    have hbk2 : ∀ i, Value.ownBlock (.slice A4 D.length c4) = some i → G i := fun i hi => HDG.out i (by rw [← hbk]; exact hi)
    clear hw5 q3 q3f k1 k2 k4 ho4 hg4 hbk g1' g2' g3' g4' g1 g2 g3 g4
    simp only [List.set] at m1
    have z0 := m1.cell 0 _ rfl
    have z0f := m1.frozen 0
    have M1 := Lib.hid m1; clear m1
    have M2 := Lib.hid m2; clear m2
    have M3 := Lib.hid m3; clear m3
    have M4 := Lib.hid m4; clear m4
    have HBK := Lib.hid hbk2; clear hbk2
    go_wp2_with fail
    go_ret
    have hs5 := M4.out.size
    refine ⟨rfl, fun i => G i ∨ Value.ownBlock (.slice A1 L.length c1') = some i, ⟨⟨.slice A1 L.length c1', .slice A4 D.length c4, L, D, ?_, ?_, ?_, HE4.out, fun i hi => .inr hi, fun i hi => .inl (HBK.out i hi)⟩, .inl HQ.out, ?_, ?_⟩, ?_, ?_⟩
    · have := M1.out.put 0 (.int .i64 v)
      simp only [List.set] at this
      rw [HE2.out, HE3.out]
      exact this
    · exact (M2.out.put M1.out (by decide) 0 _).lower HLOW.out.1
    · exact M3.out.put M1.out (by decide) 0 _
    · simp only [World.size_setCell]; exact Nat.le_trans HLOW.out.1 hs5
    · intro i hi
      simp only [World.size_setCell]
      rcases hi with hi | hi
      · exact ⟨(HLOW.out.2 i hi).1, Nat.lt_of_lt_of_le (HLOW.out.2 i hi).2 hs5⟩
      · have h7 := M2.out.low hi
        exact ⟨Nat.le_trans HLOW.out.1 h7.1, h7.2⟩
    · intro i hi
      rcases hi with hi | hi
      · exact .inl hi
      · exact .inr (M2.out.low hi).1
    · exact M4.out.setCell (p := ⟨q, 0, none⟩) (fun _ => HQ.out) _
  · have hf : p.forget v = (0, p) := by unfold Pa.forget; rw [if_neg h1, if_neg h2]
    rw [hf]
    obtain ⟨bv, dv, bs, ds, hb, _⟩ := h.blk
    have c0 := hb.cell 0 _ rfl
    have c1 := hb.cell 1 _ rfl
    clear hb h
    go_enter Try.func21, Try.ntmps21
    go_wp2_with fail
    go_ret
    exact ⟨rfl, G, H0.out, fun _ h => .inl h, Mv.refl _ _⟩
set_option maxHeartbeats 4000000 in
set_option maxRecDepth 100000 in
theorem pback_any (base q n : Nat) (G : Nat → Prop) (p : Pa) (v : Int) (w : World) (h : PaAt w base q G n p) (hv : I64 v) :
    Calls Try.prog 23 #[.pointer (some ⟨q, 0, none⟩), .int .i64 v] w fun e w' => e = .returned (.int .i64 (p.back v).1) ∧ ∃ G', PaAt w' base q G' n (p.back v).2 ∧ (∀ i, G' i → G i ∨ w.heap.size ≤ i) ∧ Mv G w w' := by
  have H0 := Lib.hid h
  obtain ⟨⟨bv, dv, bs, ds, hb, hob, hod, hgh, hbg, hdg⟩, hq, hlow⟩ := h
  have hkn := known_any q p v bv dv w hb
  by_cases hk : p.known v = 0
  · rw [hk] at hkn
    have hf1 : p.first ≤ v ∧ v ≤ p.last := by
      unfold Pa.known at hk
      split at hk
      · cases hk
      · split at hk
        · cases hk
        · omega
    obtain ⟨p', e1, e2, e3, e4⟩ := hgh.back hf1.1 hf1.2
    rw [e1]
    have hlen := hgh.len
    have hfew := hgh.few
    unfold many at hfew
    have hr := hgh.rise
    have hup := fun f0 f1 bv W (h1 : Whole W q 65 [f0, f1, bv, dv]) (h2 : RdD W W.heap.size dv ds) => upTo_any q f0 f1 bv dv ds v W h1 h2 hr (by omega)
    have hkl := cnt_le ds v
    have hde := fun W (h1 : OwnD W base dv ds) => delete_any (cnt ds v) ds.length base ds dv W hkl (Nat.le_refl _) h1
    rw [List.drop_length] at hde
    simp only [List.append_nil] at hde
    have htl : (ds.take (cnt ds v)).length = cnt ds v := by rw [List.length_take]; omega
    have hdv : ∃ A c, dv = .slice A ds.length c := by
      rcases hod.form with ⟨h, h0⟩ | ⟨x, y, h, _⟩
      · exact ⟨none, 0, by rw [h, h0]; rfl⟩
      · exact ⟨_, _, h⟩
    obtain ⟨A0, c0, rfl⟩ := hdv
    generalize ds.take (cnt ds v) = D at hup htl hde e4
    generalize cnt ds v = k at hup hde htl hkl
    have HE4 := Lib.hid e4; clear e4
    have HUP := Lib.hid hup; clear hup
    have HDE := Lib.hid hde; clear hde
    have HB := Lib.hid hb; clear hb
    have HOD := Lib.hid hod; clear hod
    have HOB := Lib.hid hob; clear hob
    have HLOW := Lib.hid hlow; clear hlow
    have HDG := Lib.hid hdg; clear hdg
    have HBG := Lib.hid hbg; clear hbg
    have HQ := Lib.hid hq; clear hq
    have HE2 := Lib.hid e2; clear e2
    have HE3 := Lib.hid e3; clear e3
    have HKN := Lib.hid hkn; clear hkn
    clear hgh e1 hr hk htl
    go_enter Try.func23, Try.ntmps23
    go_wp2_with fail
    refine HKN.out.mono ?_
    rintro e w1 ⟨rfl, rfl⟩
    go_wp2_with fail
    obtain ⟨w2, hw2⟩ : ∃ w2, w2 = w1.drew := ⟨_, rfl⟩
    have g1 : Whole w2 q 65 [.int .i64 p.first, .int .i64 p.last, bv, .slice A0 ds.length c0] := by rw [hw2]; exact HB.out.drew
    have g2 : OwnP w2 base bv bs := by rw [hw2]; exact HOB.out.drew
    have g3 : OwnD w2 base (.slice A0 ds.length c0) ds := by rw [hw2]; exact HOD.out.drew
    have g4 : Mv G w1 w2 := by rw [hw2]; exact (Mv.refl G w1).drew
    refine wp_region_planF (fun W => Whole W q 65 [.int .i64 p.first, .int .i64 p.last, bv, .slice A0 ds.length c0]) 17 [(true, 0), (true, 1), (true, 2), (true, 3), (true, 4), (true, 5), (true, 6), (true, 9), (true, 10), (true, 11), (true, 12), (true, 13), (false, 7), (true, 8), (false, 14), (false, 15), (true, 16), (false, 17)] (by kernel_rfl) (by kernel_rfl) (fun _ _ d _ _ h => by cases d <;> exact h) (by rw [← hw2]; exact g1) ?_
    rw [← hw2]
    clear hw2
    iterate 12 (refine PlanF.take (v := ?_) rfl rfl ?_ ?_; rotate_left; (focus (intro W hW; have m3 := hW.cell 3 _ rfl; go_simp; (try with_reducible rfl); done)); (try simp only [Act.put, List.setIfInBounds_toArray, List.set_cons_zero, List.set_cons_succ]))
    refine PlanF.step rfl rfl (fun Kk hK => ?_)
    go_simp
    refine (HUP.out _ _ _ w2 g1 (g3.rd encD_len)).mono ?_
    rintro e w3 ⟨A3, c3, rfl, _, hb3⟩
    have g1' := g1.below hb3 g1.size
    have g2' := g2.below hb3 (Nat.le_refl _)
    have g3' := g3.below hb3 (Nat.le_refl _)
    have g4' := g4.trans (Mv.of_new hb3 G) (fun _ _ h => h)
    refine hK.out _ _ g1' ?_
    clear hK Kk hb3
    (try simp only [Act.put, List.setIfInBounds_toArray, List.set_cons_zero, List.set_cons_succ])
    iterate 1 (refine PlanF.take (v := ?_) rfl rfl ?_ ?_; rotate_left; (focus (intro W hW; go_simp; (try with_reducible rfl); done)); (try simp only [Act.put, List.setIfInBounds_toArray, List.set_cons_zero, List.set_cons_succ]))
    refine PlanF.step rfl rfl (fun Kk hK => ?_)
    go_simp
    refine (HDE.out w3 g3').mono ?_
    rintro e w4 ⟨A4, c4, rfl, ho4, hg4, hbk⟩
    have k1 := g1'.grown hg4 (g3'.apart g1' (by decide))
    have k2 := g2'.kept hg4 (g2'.two g3' (by decide))
    have k4 := g4'.grown hg4 (fun i _ he => HDG.out i he.symm)
    refine hK.out _ _ k1 ?_
    clear hK Kk
    (try simp only [Act.put, List.setIfInBounds_toArray, List.set_cons_zero, List.set_cons_succ])
    refine PlanF.step rfl rfl (fun Kk hK => ?_)
    go_simp
    refine hK.out _ _ k1 ?_
    clear hK Kk
    (try simp only [Act.put, List.setIfInBounds_toArray, List.set_cons_zero, List.set_cons_succ])
    iterate 1 (refine PlanF.take (v := ?_) rfl rfl ?_ ?_; rotate_left; (focus (intro W hW; go_simp; (try with_reducible rfl); done)); (try simp only [Act.put, List.setIfInBounds_toArray, List.set_cons_zero, List.set_cons_succ]))
    refine PlanF.last rfl rfl (fun Kk hK => ?_)
    have q3 := k1.cell 3 _ rfl
    have q3f := k1.frozen 3
    go_simp
    refine hK.out _ _ ?_
    clear hK Kk
    (try simp only [Act.put, List.setIfInBounds_toArray, List.set_cons_zero, List.set_cons_succ])
    have m1 := k1.put 3 (.slice A4 D.length c4)
    have m2 := k2.put k1 (by decide) 3 (.slice A4 D.length c4)
    have m3 := ho4.put k1 (by decide) 3 (.slice A4 D.length c4)
    have m4 := k4.setCell (p := ⟨q, 3, none⟩) (fun _ => HQ.out) (.slice A4 D.length c4)
    obtain ⟨w5, hw5⟩ : ∃ w5, w5 = w4.setCell ⟨q, 3, none⟩ (.slice A4 D.length c4) := ⟨_, rfl⟩
    rw [← hw5] at m1 m2 m3 m4 ⊢
    have hbk2 : ∀ i, Value.ownBlock (.slice A4 D.length c4) = some i → G i := fun i hi => HDG.out i (by rw [← hbk]; exact hi)
    clear hw5 q3 q3f k1 k2 k4 ho4 hg4 hbk g1' g2' g3' g4' g1 g2 g3 g4
    simp only [List.set] at m1
    have z0 := m1.cell 1 _ rfl
    have z0f := m1.frozen 1
    have M1 := Lib.hid m1; clear m1
    have M2 := Lib.hid m2; clear m2
    have M3 := Lib.hid m3; clear m3
    have M4 := Lib.hid m4; clear m4
    have HBK := Lib.hid hbk2; clear hbk2
    go_wp2_with fail
    go_ret
    have hs5 := M4.out.size
    refine ⟨rfl, G, ⟨⟨bv, .slice A4 D.length c4, bs, D, ?_, ?_, ?_, HE4.out, HBG.out, HBK.out⟩, HQ.out, ?_, ?_⟩, fun i hi => .inl hi, ?_⟩
    · have := M1.out.put 1 (.int .i64 v)
      simp only [List.set] at this
      rw [HE2.out, HE3.out]
      exact this
    · exact M2.out.put M1.out (by decide) 1 _
    · exact M3.out.put M1.out (by decide) 1 _
    · simp only [World.size_setCell]; exact Nat.le_trans HLOW.out.1 hs5
    · intro i hi
      simp only [World.size_setCell]
      exact ⟨(HLOW.out.2 i hi).1, Nat.lt_of_lt_of_le (HLOW.out.2 i hi).2 hs5⟩
    · exact M4.out.setCell (p := ⟨q, 1, none⟩) (fun _ => HQ.out) _
  · have hf : p.back v = (p.known v, p) := by unfold Pa.back; rw [if_pos hk]
    rw [hf]
    clear hb hob hod hgh hbg hdg hq hlow hf
    generalize p.known v = r at hkn hk ⊢
    have hkb : (r == 0) = false := by simpa using hk
    have HKN := Lib.hid hkn; clear hkn
    go_enter Try.func23, Try.ntmps23
    go_wp2_with fail
    refine HKN.out.mono ?_
    rintro e w1 ⟨rfl, rfl⟩
    go_wp2_with fail
    go_ret
    exact ⟨rfl, G, H0.out, fun _ h => .inl h, Mv.refl _ _⟩
end Go.Proofs.Ytpfhkijnaiopoaa
