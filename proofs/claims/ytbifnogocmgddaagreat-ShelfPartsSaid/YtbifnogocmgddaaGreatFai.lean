/- The program's Past: From, List, Forget, Back; all calls of it. Rows of bytes: a slice of slices, read and owned; which blocks they do not lie in. The program's records: the same ones in memory of their own. Numbers as bytes of seven bits each, as plain lists: laid, read back, read from any bytes. What the reference's Num answers. What the reference's Text answers. -/
import Derived.Test.YtbifnogocmgddaaGreatFac
import Derived.Test.YtbifnogocmgddaaGreatFag
import Derived.Test.YtbifnogocmgddaaGreatFah
import Derived.Test.YtbifnogocmgddaaGreatFab
import Derived.Test.YtbifnogocmgddaaGreatFaa
import Derived.Lib.MinMax
namespace Go.Proofs.YtbifnogocmgddaaGreat
open Go.RowKit

theorem RdG.take {α : Type} {enc : α → List Value} {k : Nat} {w : World} {B : Nat} {G : Nat → Prop} {A : Option Addr} {c m : Nat} {l : List α} (h : RdG enc k w B G (.slice A m c) l) (n : Nat) (hn : n ≤ l.length) : RdG enc k w B G (.slice A n c) (l.take n) := by
  obtain ⟨A0, c0, hv, hc, hi⟩ := h
  injection hv with h1 h2 h3
  subst h1 h3
  refine ⟨A, c, by rw [List.length_take, Nat.min_eq_left hn], by rw [List.length_take]; omega, fun i hs => ?_⟩
  have hs' : i < l.length := by rw [List.length_take] at hs; omega
  obtain ⟨b, o, hA, hb, hg, h1⟩ := hi i hs'
  exact ⟨b, o, hA, hb, hg, fun j u hu => h1 j u (by rwa [List.getElem_take] at hu)⟩

set_option maxHeartbeats 2000000 in
theorem pfrom_any (v : Int) (ps : Prs) (vp : Value) (w : World) (hv : I64 v) (h0 : 0 ≤ v) (hr : RdP w w.heap.size vp ps) (hs : soundP ps = true) (hn : ps.length ≤ many) :
    Calls Tryz.prog 42 #[.int .i64 v, vp] w fun e w' => ∃ q G, e = .returned (.tuple #[.pointer (some ⟨q, 0, none⟩), .int .i64 0]) ∧ PaAt w' w.heap.size q G ps.length (Pa.from_ v ps) ∧ Below w.heap.size w w' := by
  have hap := papply_any ps [] (fun p hp => by have := (soundP_spec hs).2 p hp; omega) (by simp) vp (.slice none 0 0) w hr (Rd.nil _ _) (by unfold many at hn; simp; omega)
  have hsz := hr
  obtain ⟨A, c, rfl, _, _⟩ := hr
  have HAP := Lib.hid hap; clear hap hsz
  have hv0 : ¬ v < 0 := by omega
  go_enter Tryz.func42, Tryz.ntmps42
  go_wp2_with fail
  refine HAP.out.mono ?_
  rintro e w1 ⟨v', qe, rfl, hb1, hai⟩
  have hq0 : qe = 0 ∧ OwnP w1 w.heap.size v' ps := by
    rcases hai with ⟨h1, h2, _⟩ | ⟨_, h2, _⟩ | ⟨_, _, h3, h4⟩
    · exact absurd h1 h2
    · rw [hs] at h2; cases h2
    · exact ⟨h3, h4⟩
  obtain ⟨rfl, ho1⟩ := hq0
  have HO1 := Lib.hid ho1; clear ho1 hai
  have HB1 := Lib.hid hb1; clear hb1
  have hvs : ∃ A' c', v' = .slice A' ps.length c' := by
    rcases HO1.out.form with ⟨h, h0⟩ | ⟨x, y, h, _⟩
    · exact ⟨none, 0, by rw [h, h0]; rfl⟩
    · exact ⟨_, _, h⟩
  obtain ⟨A', c', rfl⟩ := hvs
  go_wp2_with fail
  have hsz1 := HB1.out.size
  refine bodyPost_ret (v := .tuple #[.pointer (some ⟨w1.heap.size, 0, none⟩), .int .i64 0]) (by simp [results, Tryz.results42, go_sem]) rfl ⟨w1.heap.size, fun i => i = w1.heap.size ∨ Value.ownBlock (.slice A' ps.length c') = some i, rfl, ⟨⟨.slice A' ps.length c', .slice none 0 0, ps, [], Whole.fresh w1 _ [_, _, _, _], HO1.out.alloc _, Own.nil _ _, Gh.from_ hv hs hn, fun i hi => .inr hi, by simp [Value.ownBlock]⟩, .inl rfl, by simp; omega, ?_⟩, HB1.out.alloc hsz1 _⟩
  rintro i (rfl | hi)
  · simp; omega
  · have := HO1.out.low hi
    simp; omega
set_option maxHeartbeats 2000000 in
theorem pfrom_bad (v : Int) (ps : Prs) (vp : Value) (w : World) (hv : I64 v) (hr : RdP w w.heap.size vp ps) (hsm : ∀ p ∈ ps, p.1.size < 4611686018427387904 ∧ p.2.size < 4611686018427387904) (hn : ps.length ≤ many) (hb : v < 0 ∨ soundP ps = false) :
    Calls Tryz.prog 42 #[.int .i64 v, vp] w fun e w' => e = .returned (.tuple #[.pointer none, .int .i64 (if v < 0 then 1 else 2)]) ∧ Below w.heap.size w w' := by
  have hap := papply_any ps [] hsm (by simp) vp (.slice none 0 0) w hr (Rd.nil _ _) (by unfold many at hn; simp; omega)
  obtain ⟨A, c, rfl, _, _⟩ := hr
  have HAP := Lib.hid hap; clear hap
  by_cases hv0 : v < 0
  · rw [if_pos hv0]
    clear hb
    go_enter Tryz.func42, Tryz.ntmps42
    go_wp2_with fail
    exact bodyPost_ret (v := .tuple #[.pointer none, .int .i64 1]) (by simp [results, Tryz.results42, go_sem]) rfl ⟨rfl, Below.refl _ _⟩
  · rw [if_neg hv0]
    have hs := hb.resolve_left hv0
    clear hb
    go_enter Tryz.func42, Tryz.ntmps42
    go_wp2_with fail
    refine HAP.out.mono ?_
    rintro e w1 ⟨v', qe, rfl, hb1, hai⟩
    have hq0 : qe = 2 ∧ v' = .slice none 0 0 := by
      rcases hai with ⟨h1, h2, _⟩ | ⟨_, _, h3, h4⟩ | ⟨_, h2, _⟩
      · exact absurd h1 h2
      · exact ⟨h3, h4⟩
      · rw [hs] at h2; cases h2
    obtain ⟨rfl, rfl⟩ := hq0
    have HB1 := Lib.hid hb1; clear hb1 hai
    go_wp2_with fail
    exact bodyPost_ret (v := .tuple #[.pointer none, .int .i64 2]) (by simp [results, Tryz.results42, go_sem]) rfl ⟨rfl, HB1.out⟩

set_option maxHeartbeats 4000000 in
set_option maxRecDepth 100000 in
theorem plist_any (base q n : Nat) (G : Nat → Prop) (p : Pa) (s : K × K) (v most : Int) (w : World) (h : PaAt w base q G n p) (hv : I64 v) (hm : I64 most) (h1 : s.1.size < 4611686018427387904) (h2 : s.2.size < 4611686018427387904) :
    Calls Tryz.prog 27 #[.pointer (some ⟨q, 0, none⟩), spv s, .int .i64 v, .int .i64 most] w fun e w' => ∃ A c, e = .returned (.tuple #[.slice A (p.list s v most).1.length c, .int .i64 (p.list s v most).2]) ∧ RdPG w' w'.heap.size (fun i => G i ∨ Else w G i) (.slice A (p.list s v most).1.length c) (p.list s v most).1 ∧ Below w.heap.size w w' := by
  unfold spv
  obtain ⟨W1, hW1⟩ : ∃ W1, W1 = w.alloc (.cells #[.string s.1, .string s.2] 31) := ⟨_, rfl⟩
  have hB1 : Below w.heap.size w W1 := by rw [hW1]; exact (Below.refl _ w).alloc (Nat.le_refl _) _
  have hs1 : W1.heap.size = w.heap.size + 1 := by rw [hW1]; simp
  have hsp : Whole W1 w.heap.size 31 [.string s.1, .string s.2] := by rw [hW1]; exact Whole.fresh w _ [_, _]
  have hP := h.new hB1
  obtain ⟨bv, dv, bs, ds, hb, _⟩ := id hP.blk
  have hkn := known_any q p v bv dv W1 hb
  have hlow := h.low
  have hlen : (p.at_ v).length ≤ 3000000 ∨ p.known v ≠ 0 := by
    by_cases hk : p.known v = 0
    · left
      obtain ⟨_, _, bs2, ds2, _, _, _, hgh, _⟩ := h.blk
      have hf : p.first ≤ v := by
        unfold Pa.known at hk
        split at hk
        · cases hk
        · omega
      rw [hgh.link v hf]
      have h3 := applyP_len bs2 (chgs (upD ds2 v))
      rw [chgs_len] at h3
      have h4 : (upD ds2 v).length ≤ ds2.length := List.length_filter_le _ _
      have := hgh.len
      have := hgh.few
      unfold many at this
      omega
    · exact .inr hk
  have hfs : p.known v = 0 → p.first ≤ v := fun hk => by
    unfold Pa.known at hk
    split at hk
    · cases hk
    · omega
  have hat := fun hk => at_any base q n G p v W1 hP (hfs hk)
  have HAT := Lib.hid hat; clear hat hfs
  have HW1 := Lib.hid hW1; clear hW1
  have HKN := Lib.hid hkn; clear hkn
  have HSP := Lib.hid hsp; clear hsp hb hP
  unfold Pa.list
  by_cases hk : p.known v = 0
  · rw [if_neg (by simpa using hk)]
    rw [hk] at HKN
    have hat := HAT.out hk
    have hlen2 := hlen.resolve_right (by simpa using hk)
    clear HAT hlen hk
    generalize p.at_ v = L at hat hlen2 ⊢
    have HAT := Lib.hid hat; clear hat
    by_cases hm0 : most < 0
    · rw [if_pos hm0]
      clear HAT
      go_enter Tryz.func27, Tryz.ntmps27
      go_wp2_with fail
      rw [← HW1.out]
      refine HKN.out.mono ?_
      rintro e w2 ⟨rfl, rfl⟩
      go_wp2_with fail
      exact bodyPost_ret (v := .tuple #[.slice none 0 0, .int .i64 1]) (by simp [results, Tryz.results27, go_sem]) rfl ⟨none, 0, rfl, RdG.none_ _ _ _ _ _, hB1⟩
    · rw [if_neg hm0]
      have hfl : (L.filter fun x => hasB s x.1).length ≤ L.length := List.length_filter_le _ _
      go_enter Tryz.func27, Tryz.ntmps27
      go_wp2_with fail
      rw [← HW1.out]
      refine HKN.out.mono ?_
      rintro e w2 ⟨rfl, rfl⟩
      go_wp2_with fail
      refine HAT.out.mono ?_
      rintro e w3 ⟨v3, rfl, ho3, hb3⟩
      have hs3 := hb3.size
      have hsp3 := HSP.out.below hb3 (by omega)
      have hdf := deleteFunc_any s w.heap.size w2.heap.size L v3 w3 (by omega) (hsp3.cell 0 _ rfl) (hsp3.cell 1 _ rfl) ho3 hs3 (by omega)
      obtain ⟨F, hF⟩ : ∃ F, F = L.filter (fun x => hasB s x.1) := ⟨_, rfl⟩
      rw [← hF] at hdf hfl
      have HF := Lib.hid hF; clear hF
      have HDF := Lib.hid hdf; clear hdf
      have HB3 := Lib.hid (hB1.trans (hb3.mono (by omega)))
      clear ho3 hb3 hsp3
      go_wp2_with fail
      refine HDF.out.mono ?_
      rintro e w4 ⟨A4, c4, rfl, ho4, hb4⟩
      have hs4 : w2.heap.size ≤ w4.heap.size := Nat.le_trans hs3 hb4.size
      have HB4 := Lib.hid (HB3.out.trans (hb4.mono (by omega)))
      have hc4 : F.length ≤ c4 := by
        obtain ⟨A5, c5, e1, e2, _⟩ := ho4.rd cellsS_len
        injection e1 with _ _ e3
        omega
      have hrg : RdPG w4 w4.heap.size (fun i => G i ∨ Else w G i) (.slice A4 F.length c4) F := RdG.own cellsS_len ho4 (fun b hb1 _ _ hb2 => by
        rcases hb2 with hb2 | hb2
        · have := (hlow.2 b hb2).2; omega
        · have := hb2.2; omega)
      obtain ⟨k, hk⟩ : ∃ k : Nat, k = min most.toNat F.length := ⟨_, rfl⟩
      have hmn : min most (F.length : Int) = (k : Int) := by omega
      have hk1 : (k : Int) ≤ (c4 : Int) := by omega
      have hkl : (F.take most.toNat).length = k := by rw [List.length_take, hk]
      have htk : F.take most.toNat = F.take k := by rw [hk, List.take_eq_take_iff]; omega
      have HRG := Lib.hid (hrg.take k (by omega))
      rw [← htk] at HRG
      have HKL := Lib.hid hkl
      clear ho4 hb4 hrg hkl htk hk
      go_wp2_with fail
      exact bodyPost_ret (v := .tuple #[.slice A4 k c4, .int .i64 0]) (by simp [results, Tryz.results27, go_sem]) rfl ⟨A4, c4, by rw [← HF.out, HKL.out], by rw [← HF.out, HKL.out]; exact HRG.out, HB4.out⟩
  · rw [if_pos hk]
    clear HAT hlen
    generalize p.known v = r at HKN hk ⊢
    have hkb : (r == 0) = false := by simpa using hk
    go_enter Tryz.func27, Tryz.ntmps27
    go_wp2_with fail
    rw [← HW1.out]
    refine HKN.out.mono ?_
    rintro e w2 ⟨rfl, rfl⟩
    go_wp2_with fail
    exact bodyPost_ret (v := .tuple #[.slice none 0 0, .int .i64 r]) (by simp [results, Tryz.results27, go_sem]) rfl ⟨none, 0, rfl, RdG.none_ _ _ _ _ _, hB1⟩

set_option maxHeartbeats 4000000 in
set_option maxRecDepth 100000 in
theorem pforget_any (base q n : Nat) (G : Nat → Prop) (p : Pa) (v : Int) (w : World) (h : PaAt w base q G n p) (hv : I64 v) :
    Calls Tryz.prog 34 #[.pointer (some ⟨q, 0, none⟩), .int .i64 v] w fun e w' => e = .returned (.int .i64 (p.forget v).1) ∧ ∃ G', PaAt w' base q G' n (p.forget v).2 ∧ (∀ i, G' i → G i ∨ w.heap.size ≤ i) ∧ Mv G w w' := by
  have H0 := Lib.hid h
  by_cases h1 : p.last < v
  · have hf : p.forget v = (8, p) := by unfold Pa.forget; rw [if_pos h1]
    rw [hf]
    obtain ⟨bv, dv, bs, ds, hb, _⟩ := h.blk
    have c1 := hb.cell 1 _ rfl
    clear hb h
    go_enter Tryz.func34, Tryz.ntmps34
    go_wp2_with fail
    go_ret
    exact ⟨rfl, G, H0.out, fun _ h => .inl h, Mv.refl _ _⟩
  by_cases h2 : p.first < v
  · have hat := at_any base q n G p v w h (by omega)
    obtain ⟨⟨bv, dv, bs, ds, hb, hob, hod, hgh, hbg, hdg⟩, hq, hlow⟩ := h
    obtain ⟨p', e1, e2, e3, e4⟩ := hgh.forget h2 (by omega)
    rw [e1]
    have c0 := hb.cell 0 _ rfl
    have c1 := hb.cell 1 _ rfl
    have hlen := hgh.len
    have hfew := hgh.few
    unfold many at hfew
    have hr := hgh.rise
    have hup := fun f0 f1 bv W (h1 : Whole W q 87 [f0, f1, bv, dv]) (h2 : RdD W W.heap.size dv ds) => upTo_any q f0 f1 bv dv ds v W h1 h2 hr (by omega)
    have hkl := cnt_le ds v
    have hde := fun W (h1 : OwnD W base dv ds) => delete_any 0 (cnt ds v) base ds dv W (Nat.zero_le _) hkl h1
    rw [List.take_zero] at hde
    simp only [List.nil_append] at hde
    have htl : (ds.take (cnt ds v)).length = cnt ds v := by rw [List.length_take]; omega
    have hal : (p.at_ v).length ≤ n := by have := e4.len; omega
    generalize p.at_ v = L at hat e4 hal
    generalize ds.drop (cnt ds v) = D at hde e4
    generalize ds.take (cnt ds v) = U at hup htl
    generalize cnt ds v = k at hup hde htl hkl
    have HE4 := Lib.hid e4; clear e4
    have HUP := Lib.hid hup; clear hup
    have HDE := Lib.hid hde; clear hde
    have HAT := Lib.hid hat; clear hat
    have HB := Lib.hid hb; clear hb
    have HOD := Lib.hid hod; clear hod
    have HOB := Lib.hid hob; clear hob
    have HLOW := Lib.hid hlow; clear hlow
    have HDG := Lib.hid hdg; clear hdg
    have HQ := Lib.hid hq; clear hq
    have HE2 := Lib.hid e2; clear e2
    have HE3 := Lib.hid e3; clear e3
    clear hgh hbg e1 hr
    go_enter Tryz.func34, Tryz.ntmps34
    go_wp2_with fail
    refine HAT.out.mono ?_
    rintro e w1 ⟨v1, rfl, ho1, hb1⟩
    have hvs : ∃ A' c', v1 = .slice A' L.length c' := by
      rcases ho1.form with ⟨h, h0⟩ | ⟨x, y, h, _⟩
      · exact ⟨none, 0, by rw [h, h0]; rfl⟩
      · exact ⟨_, _, h⟩
    obtain ⟨A1, c1', rfl⟩ := hvs
    have hw1 := HB.out.below hb1 HB.out.size
    have q2 := hw1.cell 2 _ rfl
    have q2f := hw1.frozen 2
    have hs1 := hb1.size
    have HO1 := Lib.hid ho1; clear ho1
    have HB1 := Lib.hid hb1; clear hb1
    have HW1 := Lib.hid hw1; clear hw1
    go_wp2_with fail
    -- the region that lays down what is left
    obtain ⟨w2, hw2⟩ : ∃ w2, w2 = (w1.setCell ⟨q, 2, none⟩ (.slice A1 L.length c1')).drew := ⟨_, rfl⟩
    have g1 : Whole w2 q 87 [.int .i64 p.first, .int .i64 p.last, .slice A1 L.length c1', dv] := by rw [hw2]; exact (HW1.out.put 2 _).drew
    have g2 : OwnP w2 w.heap.size (.slice A1 L.length c1') L := by rw [hw2]; exact (HO1.out.put HW1.out (by decide) 2 _).drew
    have g3 : OwnD w2 base dv ds := by rw [hw2]; exact ((HOD.out.below HB1.out (Nat.le_refl _)).put HW1.out (by decide) 2 _).drew
    have g4 : Mv G w w2 := by rw [hw2]; exact ((Mv.of_new HB1.out G).setCell (p := ⟨q, 2, none⟩) (fun _ => HQ.out) _).drew
    have hs2 : w.heap.size ≤ w2.heap.size := g4.size
    refine wp_region_planF (fun W => Whole W q 87 [.int .i64 p.first, .int .i64 p.last, .slice A1 L.length c1', dv]) 12 [(true, 0), (true, 1), (true, 2), (true, 3), (true, 4), (true, 5), (true, 6), (false, 7), (true, 8), (false, 9), (false, 10), (true, 11), (false, 12)] (by kernel_rfl) (by kernel_rfl) (fun _ _ d _ _ h => by cases d <;> exact h) (by rw [← hw2]; exact g1) ?_
    rw [← hw2]
    clear hw2 q2 q2f c0 c1
    iterate 7 (refine PlanF.take (v := ?_) rfl rfl ?_ ?_; rotate_left; (focus (intro W hW; have m3 := hW.cell 3 _ rfl; go_simp; (try with_reducible rfl); done)); (try simp only [Act.put, List.setIfInBounds_toArray, List.set_cons_zero, List.set_cons_succ]))
    refine PlanF.step rfl rfl (fun Kk hK => ?_)
    go_simp
    refine (HUP.out _ _ _ w2 g1 (g3.rd encD_len)).mono ?_
    rintro e w3 ⟨A3, c3, rfl, _, hb3⟩
    have g1' := g1.below hb3 g1.size
    have g2' := g2.below hb3 (Nat.le_refl _)
    have g3' := g3.below hb3 (Nat.le_refl _)
    have g4' := g4.trans (Mv.of_new hb3 G) (fun _ _ h => h)
    have hs3 := hb3.size
    refine hK.out _ _ g1' ?_
    clear hK Kk hb3
    (try simp only [Act.put, List.setIfInBounds_toArray, List.set_cons_zero, List.set_cons_succ])
    iterate 1 (refine PlanF.take (v := ?_) rfl rfl ?_ ?_; rotate_left; (focus (intro W hW; go_simp; (try with_reducible rfl); done)); (try simp only [Act.put, List.setIfInBounds_toArray, List.set_cons_zero, List.set_cons_succ]))
    refine PlanF.step rfl rfl (fun Kk hK => ?_)
    go_simp
    refine (HDE.out w3 g3').mono ?_
    rintro e w4 ⟨A4, c4, rfl, ho4, hg4, hbk⟩
    have k1 := g1'.grown hg4 (g3'.apart g1' (by decide))
    have k2 := g2'.kept hg4 (g2'.two g3' (by decide))
    have k4 := g4'.grown hg4 (fun i _ he => HDG.out i he.symm)
    refine hK.out _ _ k1 ?_
    clear hK Kk
    (try simp only [Act.put, List.setIfInBounds_toArray, List.set_cons_zero, List.set_cons_succ])
    refine PlanF.step rfl rfl (fun Kk hK => ?_)
    go_simp
    refine hK.out _ _ k1 ?_
    clear hK Kk
    (try simp only [Act.put, List.setIfInBounds_toArray, List.set_cons_zero, List.set_cons_succ])
    iterate 1 (refine PlanF.take (v := ?_) rfl rfl ?_ ?_; rotate_left; (focus (intro W hW; go_simp; (try with_reducible rfl); done)); (try simp only [Act.put, List.setIfInBounds_toArray, List.set_cons_zero, List.set_cons_succ]))
    refine PlanF.last rfl rfl (fun Kk hK => ?_)
    have q3 := k1.cell 3 _ rfl
    have q3f := k1.frozen 3
    go_simp
    refine hK.out _ _ ?_
    clear hK Kk
    (try simp only [Act.put, List.setIfInBounds_toArray, List.set_cons_zero, List.set_cons_succ])
    have m1 := k1.put 3 (.slice A4 D.length c4)
    have m2 := k2.put k1 (by decide) 3 (.slice A4 D.length c4)
    have m3 := ho4.put k1 (by decide) 3 (.slice A4 D.length c4)
    have m4 := k4.setCell (p := ⟨q, 3, none⟩) (fun _ => HQ.out) (.slice A4 D.length c4)
    obtain ⟨w5, hw5⟩ : ∃ w5, w5 = w4.setCell ⟨q, 3, none⟩ (.slice A4 D.length c4) := ⟨_, rfl⟩
    rw [← hw5] at m1 m2 m3 m4 ⊢
    have hbk2 : ∀ i, Value.ownBlock (.slice A4 D.length c4) = some i → G i := fun i hi => HDG.out i (by rw [← hbk]; exact hi)
    clear hw5 q3 q3f k1 k2 k4 ho4 hg4 hbk g1' g2' g3' g4' g1 g2 g3 g4
    simp only [List.set] at m1
    have z0 := m1.cell 0 _ rfl
    have z0f := m1.frozen 0
    have M1 := Lib.hid m1; clear m1
    have M2 := Lib.hid m2; clear m2
    have M3 := Lib.hid m3; clear m3
    have M4 := Lib.hid m4; clear m4
    have HBK := Lib.hid hbk2; clear hbk2
    go_wp2_with fail
    go_ret
    have hs5 := M4.out.size
    refine ⟨rfl, fun i => G i ∨ Value.ownBlock (.slice A1 L.length c1') = some i, ⟨⟨.slice A1 L.length c1', .slice A4 D.length c4, L, D, ?_, ?_, ?_, HE4.out, fun i hi => .inr hi, fun i hi => .inl (HBK.out i hi)⟩, .inl HQ.out, ?_, ?_⟩, ?_, ?_⟩
    · have := M1.out.put 0 (.int .i64 v)
      simp only [List.set] at this
      rw [HE2.out, HE3.out]
      exact this
    · exact (M2.out.put M1.out (by decide) 0 _).lower HLOW.out.1
    · exact M3.out.put M1.out (by decide) 0 _
    · simp only [World.size_setCell]; exact Nat.le_trans HLOW.out.1 hs5
    · intro i hi
      simp only [World.size_setCell]
      rcases hi with hi | hi
      · exact ⟨(HLOW.out.2 i hi).1, Nat.lt_of_lt_of_le (HLOW.out.2 i hi).2 hs5⟩
      · have h7 := M2.out.low hi
        exact ⟨Nat.le_trans HLOW.out.1 h7.1, h7.2⟩
    · intro i hi
      rcases hi with hi | hi
      · exact .inl hi
      · exact .inr (M2.out.low hi).1
    · exact M4.out.setCell (p := ⟨q, 0, none⟩) (fun _ => HQ.out) _
  · have hf : p.forget v = (0, p) := by unfold Pa.forget; rw [if_neg h1, if_neg h2]
    rw [hf]
    obtain ⟨bv, dv, bs, ds, hb, _⟩ := h.blk
    have c0 := hb.cell 0 _ rfl
    have c1 := hb.cell 1 _ rfl
    clear hb h
    go_enter Tryz.func34, Tryz.ntmps34
    go_wp2_with fail
    go_ret
    exact ⟨rfl, G, H0.out, fun _ h => .inl h, Mv.refl _ _⟩
set_option maxHeartbeats 4000000 in
set_option maxRecDepth 100000 in
theorem pback_any (base q n : Nat) (G : Nat → Prop) (p : Pa) (v : Int) (w : World) (h : PaAt w base q G n p) (hv : I64 v) :
    Calls Tryz.prog 31 #[.pointer (some ⟨q, 0, none⟩), .int .i64 v] w fun e w' => e = .returned (.int .i64 (p.back v).1) ∧ ∃ G', PaAt w' base q G' n (p.back v).2 ∧ (∀ i, G' i → G i ∨ w.heap.size ≤ i) ∧ Mv G w w' := by
  have H0 := Lib.hid h
  obtain ⟨⟨bv, dv, bs, ds, hb, hob, hod, hgh, hbg, hdg⟩, hq, hlow⟩ := h
  have hkn := known_any q p v bv dv w hb
  by_cases hk : p.known v = 0
  · rw [hk] at hkn
    have hf1 : p.first ≤ v ∧ v ≤ p.last := by
      unfold Pa.known at hk
      split at hk
      · cases hk
      · split at hk
        · cases hk
        · omega
    obtain ⟨p', e1, e2, e3, e4⟩ := hgh.back hf1.1 hf1.2
    rw [e1]
    have hlen := hgh.len
    have hfew := hgh.few
    unfold many at hfew
    have hr := hgh.rise
    have hup := fun f0 f1 bv W (h1 : Whole W q 87 [f0, f1, bv, dv]) (h2 : RdD W W.heap.size dv ds) => upTo_any q f0 f1 bv dv ds v W h1 h2 hr (by omega)
    have hkl := cnt_le ds v
    have hde := fun W (h1 : OwnD W base dv ds) => delete_any (cnt ds v) ds.length base ds dv W hkl (Nat.le_refl _) h1
    rw [List.drop_length] at hde
    simp only [List.append_nil] at hde
    have htl : (ds.take (cnt ds v)).length = cnt ds v := by rw [List.length_take]; omega
    have hdv : ∃ A c, dv = .slice A ds.length c := by
      rcases hod.form with ⟨h, h0⟩ | ⟨x, y, h, _⟩
      · exact ⟨none, 0, by rw [h, h0]; rfl⟩
      · exact ⟨_, _, h⟩
    obtain ⟨A0, c0, rfl⟩ := hdv
    generalize ds.take (cnt ds v) = D at hup htl hde e4
    generalize cnt ds v = k at hup hde htl hkl
    have HE4 := Lib.hid e4; clear e4
    have HUP := Lib.hid hup; clear hup
    have HDE := Lib.hid hde; clear hde
    have HB := Lib.hid hb; clear hb
    have HOD := Lib.hid hod; clear hod
    have HOB := Lib.hid hob; clear hob
    have HLOW := Lib.hid hlow; clear hlow
    have HDG := Lib.hid hdg; clear hdg
    have HBG := Lib.hid hbg; clear hbg
    have HQ := Lib.hid hq; clear hq
    have HE2 := Lib.hid e2; clear e2
    have HE3 := Lib.hid e3; clear e3
    have HKN := Lib.hid hkn; clear hkn
    clear hgh e1 hr hk htl
    go_enter Tryz.func31, Tryz.ntmps31
    go_wp2_with fail
    refine HKN.out.mono ?_
    rintro e w1 ⟨rfl, rfl⟩
    go_wp2_with fail
    obtain ⟨w2, hw2⟩ : ∃ w2, w2 = w1.drew := ⟨_, rfl⟩
    have g1 : Whole w2 q 87 [.int .i64 p.first, .int .i64 p.last, bv, .slice A0 ds.length c0] := by rw [hw2]; exact HB.out.drew
    have g2 : OwnP w2 base bv bs := by rw [hw2]; exact HOB.out.drew
    have g3 : OwnD w2 base (.slice A0 ds.length c0) ds := by rw [hw2]; exact HOD.out.drew
    have g4 : Mv G w1 w2 := by rw [hw2]; exact (Mv.refl G w1).drew
    refine wp_region_planF (fun W => Whole W q 87 [.int .i64 p.first, .int .i64 p.last, bv, .slice A0 ds.length c0]) 17 [(true, 0), (true, 1), (true, 2), (true, 3), (true, 4), (true, 5), (true, 6), (true, 9), (true, 10), (true, 11), (true, 12), (true, 13), (false, 7), (true, 8), (false, 14), (false, 15), (true, 16), (false, 17)] (by kernel_rfl) (by kernel_rfl) (fun _ _ d _ _ h => by cases d <;> exact h) (by rw [← hw2]; exact g1) ?_
    rw [← hw2]
    clear hw2
    iterate 12 (refine PlanF.take (v := ?_) rfl rfl ?_ ?_; rotate_left; (focus (intro W hW; have m3 := hW.cell 3 _ rfl; go_simp; (try with_reducible rfl); done)); (try simp only [Act.put, List.setIfInBounds_toArray, List.set_cons_zero, List.set_cons_succ]))
    refine PlanF.step rfl rfl (fun Kk hK => ?_)
    go_simp
    refine (HUP.out _ _ _ w2 g1 (g3.rd encD_len)).mono ?_
    rintro e w3 ⟨A3, c3, rfl, _, hb3⟩
    have g1' := g1.below hb3 g1.size
    have g2' := g2.below hb3 (Nat.le_refl _)
    have g3' := g3.below hb3 (Nat.le_refl _)
    have g4' := g4.trans (Mv.of_new hb3 G) (fun _ _ h => h)
    refine hK.out _ _ g1' ?_
    clear hK Kk hb3
    (try simp only [Act.put, List.setIfInBounds_toArray, List.set_cons_zero, List.set_cons_succ])
    iterate 1 (refine PlanF.take (v := ?_) rfl rfl ?_ ?_; rotate_left; (focus (intro W hW; go_simp; (try with_reducible rfl); done)); (try simp only [Act.put, List.setIfInBounds_toArray, List.set_cons_zero, List.set_cons_succ]))
    refine PlanF.step rfl rfl (fun Kk hK => ?_)
    go_simp
    refine (HDE.out w3 g3').mono ?_
    rintro e w4 ⟨A4, c4, rfl, ho4, hg4, hbk⟩
    have k1 := g1'.grown hg4 (g3'.apart g1' (by decide))
    have k2 := g2'.kept hg4 (g2'.two g3' (by decide))
    have k4 := g4'.grown hg4 (fun i _ he => HDG.out i he.symm)
    refine hK.out _ _ k1 ?_
    clear hK Kk
    (try simp only [Act.put, List.setIfInBounds_toArray, List.set_cons_zero, List.set_cons_succ])
    refine PlanF.step rfl rfl (fun Kk hK => ?_)
    go_simp
    refine hK.out _ _ k1 ?_
    clear hK Kk
    (try simp only [Act.put, List.setIfInBounds_toArray, List.set_cons_zero, List.set_cons_succ])
    iterate 1 (refine PlanF.take (v := ?_) rfl rfl ?_ ?_; rotate_left; (focus (intro W hW; go_simp; (try with_reducible rfl); done)); (try simp only [Act.put, List.setIfInBounds_toArray, List.set_cons_zero, List.set_cons_succ]))
    refine PlanF.last rfl rfl (fun Kk hK => ?_)
    have q3 := k1.cell 3 _ rfl
    have q3f := k1.frozen 3
    go_simp
    refine hK.out _ _ ?_
    clear hK Kk
    (try simp only [Act.put, List.setIfInBounds_toArray, List.set_cons_zero, List.set_cons_succ])
    have m1 := k1.put 3 (.slice A4 D.length c4)
    have m2 := k2.put k1 (by decide) 3 (.slice A4 D.length c4)
    have m3 := ho4.put k1 (by decide) 3 (.slice A4 D.length c4)
    have m4 := k4.setCell (p := ⟨q, 3, none⟩) (fun _ => HQ.out) (.slice A4 D.length c4)
    obtain ⟨w5, hw5⟩ : ∃ w5, w5 = w4.setCell ⟨q, 3, none⟩ (.slice A4 D.length c4) := ⟨_, rfl⟩
    rw [← hw5] at m1 m2 m3 m4 ⊢
    have hbk2 : ∀ i, Value.ownBlock (.slice A4 D.length c4) = some i → G i := fun i hi => HDG.out i (by rw [← hbk]; exact hi)
    clear hw5 q3 q3f k1 k2 k4 ho4 hg4 hbk g1' g2' g3' g4' g1 g2 g3 g4
    simp only [List.set] at m1
    have z0 := m1.cell 1 _ rfl
    have z0f := m1.frozen 1
    have M1 := Lib.hid m1; clear m1
    have M2 := Lib.hid m2; clear m2
    have M3 := Lib.hid m3; clear m3
    have M4 := Lib.hid m4; clear m4
    have HBK := Lib.hid hbk2; clear hbk2
    go_wp2_with fail
    go_ret
    have hs5 := M4.out.size
    refine ⟨rfl, G, ⟨⟨bv, .slice A4 D.length c4, bs, D, ?_, ?_, ?_, HE4.out, HBG.out, HBK.out⟩, HQ.out, ?_, ?_⟩, fun i hi => .inl hi, ?_⟩
    · have := M1.out.put 1 (.int .i64 v)
      simp only [List.set] at this
      rw [HE2.out, HE3.out]
      exact this
    · exact M2.out.put M1.out (by decide) 1 _
    · exact M3.out.put M1.out (by decide) 1 _
    · simp only [World.size_setCell]; exact Nat.le_trans HLOW.out.1 hs5
    · intro i hi
      simp only [World.size_setCell]
      exact ⟨(HLOW.out.2 i hi).1, Nat.lt_of_lt_of_le (HLOW.out.2 i hi).2 hs5⟩
    · exact M4.out.setCell (p := ⟨q, 1, none⟩) (fun _ => HQ.out) _
  · have hf : p.back v = (p.known v, p) := by unfold Pa.back; rw [if_pos hk]
    rw [hf]
    clear hb hob hod hgh hbg hdg hq hlow hf
    generalize p.known v = r at hkn hk ⊢
    have hkb : (r == 0) = false := by simpa using hk
    have HKN := Lib.hid hkn; clear hkn
    go_enter Tryz.func31, Tryz.ntmps31
    go_wp2_with fail
    refine HKN.out.mono ?_
    rintro e w1 ⟨rfl, rfl⟩
    go_wp2_with fail
    go_ret
    exact ⟨rfl, G, H0.out, fun _ h => .inl h, Mv.refl _ _⟩
end Go.Proofs.YtbifnogocmgddaaGreat
namespace Go.Proofs.YtbifnogocmgddaaGreat
open Go.RowKit

/-- one row of bytes: its value and what it holds -/
structure Row where
  a : Option Addr
  c : Nat
  l : List UInt8
def Row.v (r : Row) : Value := .slice r.a r.l.length r.c
def encR (r : Row) : List Value := [r.v]
theorem encR_one (r : Row) : ∀ u ∈ encR r, u.oneCell' = true := by
  intro u hu
  simp only [encR, List.mem_cons, List.not_mem_nil, or_false] at hu
  subst hu
  rfl
theorem encR_len (r : Row) : (encR r).length = 1 := rfl
set_option maxRecDepth 100000 in
theorem info_row : (Tryz.prog.info? 51).map (fun i => (i.zero, i.size, i.bytes)) = some (some (.slice none 0 0), 1, 24) := by kernel_rfl
abbrev OwnR (w : World) (base : Nat) (v : Value) (l : List Row) : Prop := Own encR 1 51 w base v l

/-- bytes below block B, in no block of G -/
def RdBG (w : World) (B : Nat) (G : Nat → Prop) (v : Value) (l : List UInt8) : Prop :=
  ∃ A c, v = .slice A l.length c ∧ l.length ≤ c ∧ ∀ i (_ : i < l.length), ∃ b o, A = some ⟨b, o, none⟩ ∧ b < B ∧ ¬ G b ∧ w.cell? ⟨b, o + i, none⟩ = some (.int .u8 (l[i].toNat : Int))
section
variable {w w' : World} {B B' : Nat} {G G' : Nat → Prop} {v : Value} {l : List UInt8}
theorem RdBG.rdB (h : RdBG w B G v l) : RdB w B v l := by
  obtain ⟨A, c, rfl, hc, hi⟩ := h
  refine ⟨A, c, rfl, hc, fun i hs => ?_⟩
  obtain ⟨b, o, hA, hb, _, h1⟩ := hi i hs
  refine ⟨b, o, hA, hb, fun j u hu => ?_⟩
  match j, hu with
  | 0, hu =>
    simp only [byteEnc, List.getElem?_cons_zero, Option.some.injEq] at hu
    subst hu
    simpa using h1
  | j + 1, hu => simp [byteEnc] at hu
theorem RdBG.of (h : RdB w B v l) (hG : ∀ b, b < B → ¬ G b) : RdBG w B G v l := by
  obtain ⟨A, c, rfl, hc, hi⟩ := h.at
  exact ⟨A, c, rfl, hc, fun i hs => by obtain ⟨b, o, hA, hb, h1⟩ := hi i hs; exact ⟨b, o, hA, hb, hG b hb, h1⟩⟩
theorem RdBG.mv {D : Nat → Prop} (h : RdBG w B G v l) (hm : Mv D w w') (hB : B ≤ w.heap.size) (hD : ∀ b, b < B → D b → G b) : RdBG w' B G v l := by
  obtain ⟨A, c, rfl, hc, hi⟩ := h
  refine ⟨A, c, rfl, hc, fun i hs => ?_⟩
  obtain ⟨b, o, hA, hb, hg, h1⟩ := hi i hs
  exact ⟨b, o, hA, hb, hg, by rw [World.cell?_of_block (w := w) (hm.block b (by omega) (fun h => hg (hD b hb h)))]; exact h1⟩
theorem RdBG.mono (h : RdBG w B G v l) (hB : B ≤ B') (hG : ∀ b, b < B → G' b → G b) : RdBG w B' G' v l := by
  obtain ⟨A, c, rfl, hc, hi⟩ := h
  refine ⟨A, c, rfl, hc, fun i hs => ?_⟩
  obtain ⟨b, o, hA, hb, hg, h1⟩ := hi i hs
  exact ⟨b, o, hA, by omega, fun h => hg (hG b hb h), h1⟩
end
/-- rows, each of their blocks below block B and none of G -/
def RdRs (w : World) (B : Nat) (G : Nat → Prop) (v : Value) (rows : List Row) : Prop :=
  (∃ A c, v = .slice A rows.length c ∧ rows.length ≤ c ∧ ∀ i (_ : i < rows.length), ∃ b o, A = some ⟨b, o, none⟩ ∧ b < B ∧ ¬ G b ∧ w.cell? ⟨b, o + i, none⟩ = some rows[i].v) ∧ ∀ r ∈ rows, RdBG w B G r.v r.l
def texts (rows : List Row) : List (List UInt8) := rows.map (·.l)
section
variable {w w' : World} {B B' : Nat} {G G' : Nat → Prop} {v : Value} {rows : List Row}
theorem RdRs.mv {D : Nat → Prop} (h : RdRs w B G v rows) (hm : Mv D w w') (hB : B ≤ w.heap.size) (hD : ∀ b, b < B → D b → G b) : RdRs w' B G v rows := by
  obtain ⟨⟨A, c, rfl, hc, hi⟩, hr⟩ := h
  refine ⟨⟨A, c, rfl, hc, fun i hs => ?_⟩, fun r hx => (hr r hx).mv hm hB hD⟩
  obtain ⟨b, o, hA, hb, hg, h1⟩ := hi i hs
  exact ⟨b, o, hA, hb, hg, by rw [World.cell?_of_block (w := w) (hm.block b (by omega) (fun h => hg (hD b hb h)))]; exact h1⟩
theorem RdRs.mono (h : RdRs w B G v rows) (hB : B ≤ B') (hG : ∀ b, b < B → G' b → G b) : RdRs w B' G' v rows := by
  obtain ⟨⟨A, c, rfl, hc, hi⟩, hr⟩ := h
  refine ⟨⟨A, c, rfl, hc, fun i hs => ?_⟩, fun r hx => (hr r hx).mono hB hG⟩
  obtain ⟨b, o, hA, hb, hg, h1⟩ := hi i hs
  exact ⟨b, o, hA, by omega, fun h => hg (hG b hb h), h1⟩
theorem RdRs.rd (h : RdRs w B G v rows) : Rd encR 1 w B v rows := by
  obtain ⟨⟨A, c, rfl, hc, hi⟩, _⟩ := h
  refine ⟨A, c, rfl, hc, fun i hs => ?_⟩
  obtain ⟨b, o, hA, hb, _, h1⟩ := hi i hs
  refine ⟨b, o, hA, hb, fun j u hu => ?_⟩
  match j, hu with
  | 0, hu =>
    simp only [encR, List.getElem?_cons_zero, Option.some.injEq] at hu
    subst hu
    simpa using h1
  | j + 1, hu => simp [encR] at hu
theorem RdRs.row (h : RdRs w B G v rows) (i : Nat) (hi : i < rows.length) : RdBG w B G rows[i].v rows[i].l := h.2 _ (List.getElem_mem hi)
/-- the first n of them -/
theorem RdRs.take {A : Option Addr} {m c : Nat} (h : RdRs w B G (.slice A m c) rows) (n : Nat) (hn : n ≤ rows.length) : RdRs w B G (.slice A n c) (rows.take n) := by
  obtain ⟨⟨A', c', hv, hc, hi⟩, hr⟩ := h
  injection hv with h1 h2 h3
  subst h1 h3
  refine ⟨⟨A, c, by simp [Nat.min_eq_left hn], by simp; omega, fun i hs => ?_⟩, fun r hx => hr r (List.mem_of_mem_take hx)⟩
  have hs' : i < rows.length := by simp at hs; omega
  obtain ⟨b, o, hA, hb, hg, h1⟩ := hi i hs'
  exact ⟨b, o, hA, hb, hg, by simpa using h1⟩
theorem RdRs.nil (w : World) (B : Nat) (G : Nat → Prop) (A : Option Addr) (c : Nat) : RdRs w B G (.slice A 0 c) [] := ⟨⟨A, c, rfl, Nat.zero_le _, fun i hi => by simp at hi⟩, fun r hr => by simp at hr⟩
/-- what is owned, of rows that are read -/
theorem OwnR.rs {base : Nat} (h : OwnR w base v rows) (hG : ∀ b, base ≤ b → ¬ G b) (hr : ∀ r ∈ rows, RdBG w w.heap.size G r.v r.l) : RdRs w w.heap.size G v rows := by
  refine ⟨?_, hr⟩
  obtain ⟨A, c, hv, hc, hi⟩ := Own.rd encR_len h
  refine ⟨A, c, hv, hc, fun i hs => ?_⟩
  obtain ⟨b, o, hA, hb, h1⟩ := hi i hs
  have hge : base ≤ b := by
    rcases h.form with ⟨e, e0⟩ | ⟨g, cap, e, hg, _, _⟩
    · rw [e0] at hs; simp at hs
    · rw [hv, hA] at e
      injection e with e _ _
      injection e with e
      injection e with e _ _
      omega
  exact ⟨b, o, hA, hb, hG b hge, by have := h1 0 _ rfl; simpa using this⟩
end
/-- a call that moves the blocks of G leaves rows that lie elsewhere -/
theorem RdRs.shift {w w' : World} {B : Nat} {G G' : Nat → Prop} {v : Value} {rows : List Row} (h : RdRs w B G v rows) (hB : B ≤ w.heap.size) (hm : Mv G w w') (hG : ∀ i, G' i → G i ∨ w.heap.size ≤ i) : RdRs w' w'.heap.size G' v rows :=
  (h.mv hm hB (fun _ _ h => h)).mono (Nat.le_trans hB hm.size) (fun b hb hg => by rcases hG b hg with h1 | h1; exact h1; omega)
section
variable {ops : Array Oper} {rest : List Oper} {o : Oper} {a : Act} {Q : Exit → Act → World → Prop} {w : World}
set_option maxRecDepth 100000 in
/-- the same in a region that draws -/
theorem wp_addR {K : Act → World → Prop} (s x : Operand)
    (ho : o.op = .call { callee := .builtin .append, args := #[s, x], argTypes := #[60, 60] })
    (base : Nat) (v : Value) (l : List Row) (hs : a.eval s = v) (hown : OwnR w base v l) (B : Nat) (v2 : Value) (p : List Row) (hx : a.eval x = v2) (hp : Rd encR 1 w B v2 p)
    (hlen : l.length + p.length ≤ 9000000000000) (hbase : base ≤ w.heap.size)
    (h : ∀ A' c' w', OwnR w' base (.slice A' (l ++ p).length c') (l ++ p) → w.grownBy w' v.ownBlock → K (a.put o.dst (.slice A' (l ++ p).length c')) w') : o.wp Tryz.prog a w K Q := by
  obtain ⟨i0, hi, hz0, hz1, hz2⟩ := info_parts info_row
  exact wp_addAny (enc := encR) (k := 1) 60 51 24 i0 _ Tryz.underlying60 hi hz0 hz1 hz2 rfl (by decide) encR_len encR_one s x ho base v l hs hown B v2 p hx hp (by unfold maxLen; omega) (by omega) hbase fun A' c' w' h1 h2 => h A' c' w' h1 h2
set_option maxRecDepth 100000 in
/-- rows appended to a slice of rows of the call's own -/
theorem wpList_addR (hgd : Region.wanted o (yielded ops a.tmps) = true) (s x : Operand)
    (ho : o.op = .call { callee := .builtin .append, args := #[s, x], argTypes := #[60, 60] })
    (base : Nat) (v : Value) (l : List Row) (hs : a.eval s = v) (hown : OwnR w base v l) (B : Nat) (v2 : Value) (p : List Row) (hx : a.eval x = v2) (hp : Rd encR 1 w B v2 p)
    (hlen : l.length + p.length ≤ 9000000000000) (hbase : base ≤ w.heap.size)
    (h : ∀ A' c' w', Hid (OwnR w' base (.slice A' (l ++ p).length c') (l ++ p)) → Hid (w.grownBy w' v.ownBlock) → wpList Tryz.prog ops Q rest (a.put o.dst (.slice A' (l ++ p).length c')) w') : wpList Tryz.prog ops Q (o :: rest) a w := by
  obtain ⟨i0, hi, hz0, hz1, hz2⟩ := info_parts info_row
  refine BigFrame.wpList_want hgd fun K hK => ?_
  refine wp_addAny (enc := encR) (k := 1) 60 51 24 i0 _ Tryz.underlying60 hi hz0 hz1 hz2 rfl (by decide) encR_len encR_one s x ho base v l hs hown B v2 p hx hp (by unfold maxLen; omega) (by omega) hbase fun A' c' w' h1 h2 => ?_
  exact hK _ _ (h A' c' w' (Lib.hid h1) (Lib.hid h2))
end
end Go.Proofs.YtbifnogocmgddaaGreat
namespace Go.Proofs.YtbifnogocmgddaaGreat
open Go.RowKit

section
variable {w w' : World} {base base2 : Nat} {v v2 : Value} {l : List UInt8} {rows : List Row}
set_option maxRecDepth 100000 in
/-- bytes and rows of bytes do not lie in one block -/
theorem HoldB.ne_rows (h : HoldB w base v l) (h2 : OwnR w base2 v2 rows) : ∀ g, v.ownBlock = some g → v2.ownBlock ≠ some g := by
  intro g' hg' hg2
  rcases h with ⟨rfl, _⟩ | ⟨g, cap, cur, rfl, hb, hh, r⟩
  · simp [Value.ownBlock] at hg'
  · rcases h2.2 with ⟨rfl, _⟩ | ⟨g2, cap2, cur2, rfl, _, hh2, _⟩
    · simp [Value.ownBlock] at hg2
    · simp only [Value.ownBlock, Option.some.injEq] at hg' hg2
      subst hg' hg2
      rw [hh] at hh2
      injection hh2 with hh2
      injection hh2 with _ ht
      revert ht
      decide
set_option maxRecDepth 100000 in
theorem HoldB.lower (h : HoldB w base v l) (hb : base2 ≤ base) : HoldB w base2 v l := by
  rcases h with h | ⟨g, cap, cur, hv, hg, r⟩
  · exact .inl h
  · exact .inr ⟨g, cap, cur, hv, Nat.le_trans hb hg, r⟩
theorem HoldB.below {B : Nat} (h : HoldB w base v l) (hb : Below B w w') (hB : w.heap.size ≤ B) : HoldB w' base v l :=
  h.mv (D := fun i => B ≤ i) (Mv.of_below hb) (fun g hg hd => by have := (h.low hg).2; omega)
/-- rows that are held, each in its own block or none -/
def HoldRs (w : World) (base : Nat) (rows : List Row) : Prop := ∀ r ∈ rows, HoldB w base r.v r.l
theorem HoldRs.mv {D : Nat → Prop} (h : HoldRs w base rows) (hm : Mv D w w') (hn : ∀ r ∈ rows, ∀ g, r.v.ownBlock = some g → ¬ D g) : HoldRs w' base rows := fun r hr => (h r hr).mv hm (hn r hr)
theorem HoldRs.lower (h : HoldRs w base rows) (hb : base2 ≤ base) : HoldRs w base2 rows := fun r hr => (h r hr).lower hb
theorem HoldRs.below {B : Nat} (h : HoldRs w base rows) (hb : Below B w w') (hB : w.heap.size ≤ B) : HoldRs w' base rows := fun r hr => (h r hr).below hb hB
/-- what grows a slice of rows leaves the bytes -/
theorem HoldRs.grown {rows2 : List Row} (h : HoldRs w base rows) (ho : OwnR w base2 v2 rows2) (hg : w.grownBy w' v2.ownBlock) : HoldRs w' base rows :=
  h.mv (Mv.of_grown hg) (fun r hr g hg2 hd => (h r hr).ne_rows ho g hg2 hd.symm)
theorem HoldRs.nil (w : World) (base : Nat) : HoldRs w base [] := fun r hr => by simp at hr
theorem HoldRs.append {rows2 : List Row} (h : HoldRs w base rows) (h2 : HoldRs w base rows2) : HoldRs w base (rows ++ rows2) := fun r hr => by
  rcases List.mem_append.1 hr with hr | hr
  · exact h r hr
  · exact h2 r hr
theorem HoldB.rdBG {G : Nat → Prop} (h : HoldB w base v l) (hG : ∀ g, v.ownBlock = some g → ¬ G g) : RdBG w w.heap.size G v l := by
  obtain ⟨A, c, hv, hc, hi⟩ := h.rdB.at
  refine ⟨A, c, hv, hc, fun i hs => ?_⟩
  obtain ⟨b, o, hA, hb, h1⟩ := hi i hs
  exact ⟨b, o, hA, hb, hG b (by rw [hv, hA]; rfl), h1⟩
/-- rows of the call's own, read -/
theorem OwnR.held {G : Nat → Prop} (h : OwnR w base v rows) (hr : HoldRs w base2 rows) (h1 : ∀ g, v.ownBlock = some g → ¬ G g) (h2 : ∀ r ∈ rows, ∀ g, r.v.ownBlock = some g → ¬ G g) : RdRs w w.heap.size G v rows := by
  refine ⟨?_, fun r hx => (hr r hx).rdBG (h2 r hx)⟩
  obtain ⟨A, c, hv, hc, hi⟩ := Own.rd encR_len h
  refine ⟨A, c, hv, hc, fun i hs => ?_⟩
  obtain ⟨b, o, hA, hb, h3⟩ := hi i hs
  exact ⟨b, o, hA, hb, h1 b (by rw [hv, hA]; rfl), by have := h3 0 _ rfl; simpa using this⟩
theorem texts_append (a b : List Row) : texts (a ++ b) = texts a ++ texts b := by simp [texts]
end

set_option maxRecDepth 100000 in
/-- a literal of one row -/
theorem RdR.one (w : World) (r : Row) : Rd encR 1 (w.alloc (.cells #[r.v] 51)) (w.heap.size + 1) (.slice (some ⟨w.heap.size, 0, none⟩) 1 1) [r] := by
  refine ⟨_, 1, rfl, Nat.le_refl _, fun i hi => ⟨w.heap.size, 0, rfl, Nat.lt_succ_self _, fun j u hu => ?_⟩⟩
  obtain rfl : i = 0 := by simp at hi; omega
  match j, hu with
  | 0, hu =>
    simp only [encR, List.getElem_cons_zero, List.getElem?_cons_zero, Option.some.injEq] at hu
    subst hu
    exact World.cell?_alloc_at _ _ _ _ rfl
  | j + 1, hu => simp [encR] at hu

set_option maxHeartbeats 4000000 in
set_option maxRecDepth 100000 in
theorem bfresh_any (rows : List Row) (G : Nat → Prop) (v : Value) (w : World) (hv : RdRs w w.heap.size G v rows) (hl : rows.length ≤ 4000000) (hr : ∀ r ∈ rows, r.l.length ≤ 140737488351232) :
    Calls Tryz.prog 38 #[v] w fun e w' => ∃ A c n, e = .returned (.slice A n c) ∧ ∃ rows', n = rows'.length ∧ OwnR w' w.heap.size (.slice A n c) rows' ∧ HoldRs w' w.heap.size rows' ∧ texts rows' = texts rows ∧ Below w.heap.size w w' := by
  obtain ⟨A, c, rfl, hc, -⟩ := hv.1
  have HV := Lib.hid hv; clear hv
  have HR := Lib.hid hr; clear hr
  have hLl : (texts rows).length = rows.length := by simp [texts]
  have HLL := Lib.hid hLl; clear hLl
  go_enter Tryz.func38, Tryz.ntmps38
  go_wp2_with fail
  go_loopw [3, 8] (fun ov iv wr => ∃ (i : Nat) (A' : Option Addr) (c' n : Nat) (rows' : List Row), i ≤ rows.length ∧ iv = .int .i64 (i : Int) ∧ ov = .slice A' n c' ∧ n = rows'.length ∧ OwnR wr w.heap.size (.slice A' n c') rows' ∧ HoldRs wr w.heap.size rows' ∧ texts rows' = (texts rows).take i ∧ Below w.heap.size w wr) (fun _ iv _ => rows.length - (intOf iv).toNat)
  case atStart => exact ⟨0, _, _, 0, [], Nat.zero_le _, rfl, rfl, rfl, Own.nil _ _, HoldRs.nil _ _, rfl, Below.refl _ _⟩
  case round =>
    obtain ⟨i, A', c', n, rows', hi, rfl, rfl, hn, ho, hh, ht, hb⟩ := hrel
    have hbs := hb.size
    have hni : n = i := by
      have := congrArg List.length ht
      rw [List.length_take, HLL.out] at this
      rw [hn]; simp [texts] at this; omega
    by_cases hgo : i < rows.length
    · have h1 : (i : Int) < (rows.length : Int) := by omega
      have hrs := HV.out.mv (Mv.of_below hb) (Nat.le_refl _) (fun b h1 h2 => by omega)
      obtain ⟨⟨A0, c0, e0, -, hcell⟩, hrow⟩ := hrs
      injection e0 with e1 e2 e3
      subst e1 e3
      obtain ⟨b, o, rfl, hbl, -, q0⟩ := hcell i hgo
      have hrd := (hrow rows[i] (List.getElem_mem hgo)).rdB
      have hbig : rows[i].l.length ≤ 140737488351232 := HR.out _ (List.getElem_mem hgo)
      have hnext : (texts rows).take (i + 1) = (texts rows).take i ++ [rows[i].l] := by
        rw [List.take_add_one, List.getElem?_eq_getElem (by rw [HLL.out]; exact hgo)]
        simp [texts]
      have HNX := Lib.hid hnext
      clear hnext hcell hrow e2
      generalize rows[i] = r at q0 hrd hbig HNX
      obtain ⟨ra, rc, rl⟩ := r
      simp only [Row.v] at q0 hrd hbig HNX
      have HO := Lib.hid ho
      have HH := Lib.hid hh
      have HT := Lib.hid ht
      have HB := Lib.hid hb
      have HN := Lib.hid hn
      have HRD := Lib.hid hrd
      have HNI := Lib.hid hni
      clear ho hh ht hb hn hrd hni
      go_wp2_with (at_builtin; go_must (refine wpList_addBG rfl _ _ rfl wr.heap.size _ [] rfl (Own.nil _ _) w.heap.size _ rl rfl HRD.out (by simp only [List.length_nil]; omega) (Nat.le_refl _) ?_))
      intro A1 c1 w1 ho1 hg1
      have hho : HoldB w1 w.heap.size (.slice A1 rl.length c1) rl := (HoldB.ofOwn (show OwnB w1 wr.heap.size (.slice A1 rl.length c1) rl from ho1.out)).lower hbs
      have hB1 : Below wr.heap.size wr w1 := (Below.refl _ wr).grown hg1.out (Nat.le_refl _) (by simp [Value.ownBlock])
      have HO1 := Lib.hid (HO.out.below hB1 (Nat.le_refl _))
      have HH1 := Lib.hid (HH.out.below hB1 (Nat.le_refl _))
      have HHO := Lib.hid hho
      have HB1 := Lib.hid (HB.out.trans (hB1.mono hbs))
      have hbs1 := HB1.out.size
      clear hho hB1 hg1 ho1
      obtain ⟨w2, hw2⟩ : ∃ w2, w2 = w1.alloc (.cells #[.slice A1 rl.length c1] 51) := ⟨_, rfl⟩
      have hone : Rd encR 1 w2 (w1.heap.size + 1) (.slice (some ⟨w1.heap.size, 0, none⟩) 1 1) [⟨A1, c1, rl⟩] := by rw [hw2]; exact RdR.one w1 ⟨A1, c1, rl⟩
      have hB2 : Below w1.heap.size w1 w2 := by rw [hw2]; exact (Below.refl _ w1).alloc (Nat.le_refl _) _
      have HO2 := Lib.hid (HO1.out.below hB2 (Nat.le_refl _))
      have HH2 := Lib.hid (HH1.out.below hB2 (Nat.le_refl _))
      have HHO2 := Lib.hid (HHO.out.below hB2 (Nat.le_refl _))
      have HB2 := Lib.hid (HB1.out.trans (hB2.mono hbs1))
      have HONE := Lib.hid hone
      have HW2 := Lib.hid hw2
      clear hone hB2 hw2
      have hnl : rows'.length + 1 ≤ 9000000000000 := by have := HNI.out; have := HN.out; omega
      have hOO : OwnR w2 w.heap.size (.slice A' n c') rows' := HO2.out
      rw [HN.out] at hOO
      go_wp2_with (at_builtin; go_must (refine wpList_addR rfl _ _ rfl w.heap.size (.slice A' n c') rows' rfl ?x1 (w1.heap.size + 1) _ [⟨A1, c1, rl⟩] rfl ?x2 (by show _ + 1 ≤ _; exact hnl) ?x3 ?_))
      case x1 => rw [← HW2.out]; exact HO2.out
      case x2 => rw [← HW2.out]; exact HONE.out
      case x3 => have := HB2.out.size; rw [HW2.out] at this; exact this
      rw [← HW2.out]
      intro A3 c3 w3 ho3 hg3
      have HO3 := Lib.hid ho3.out
      have HH3 := Lib.hid ((HH2.out.append (show HoldRs w2 w.heap.size [⟨A1, c1, rl⟩] from fun r hr => by rw [List.mem_singleton.1 hr]; exact HHO2.out)).grown HO2.out hg3.out)
      have HB3 := Lib.hid (HO2.out.grown HB2.out hg3.out (Nat.le_refl _) HB2.out.size)
      have ht3 : texts (rows' ++ [⟨A1, c1, rl⟩]) = (texts rows).take (i + 1) := by rw [texts_append, HT.out, HNX.out]; rfl
      have HT3 := Lib.hid ht3
      clear ho3 hg3 ht3 hOO
      obtain ⟨n3, hn3⟩ : ∃ n3, n3 = rows'.length + 1 := ⟨_, rfl⟩
      rw [← hn3] at HO3 ⊢
      have HN3 := Lib.hid (show n3 = (rows' ++ [(⟨A1, c1, rl⟩ : Row)]).length by rw [hn3]; simp); clear hn3
      go_wp2_with fail
      go_roundw
      case rel => exact ⟨i + 1, A3, c3, n3, _, by omega, by go_num, rfl, HN3.out, HO3.out, HH3.out, HT3.out, HB3.out⟩
      case measure => simp [intOf]; omega
    · have h1 : ¬ (i : Int) < (rows.length : Int) := by omega
      have hie : (texts rows).take i = texts rows := List.take_of_length_le (by rw [HLL.out]; omega)
      rw [hie] at ht
      have HO := Lib.hid ho
      have HH := Lib.hid hh
      have HT := Lib.hid ht
      have HB := Lib.hid hb
      have HN := Lib.hid hn
      clear ho hh ht hb hn hie hni
      go_wp2_with fail
      go_ret
      exact ⟨A', c', n, rfl, rows', HN.out, HO.out, HH.out, HT.out, HB.out⟩
end Go.Proofs.YtbifnogocmgddaaGreat
namespace Go.Proofs.YtbifnogocmgddaaGreat

theorem u8_ofNat {x : Nat} (h : x < 256) : (UInt8.ofNat x).toNat = x := by simp; omega

/-- a number's bytes -/
def enc (n : Nat) : List UInt8 := if n > 127 then UInt8.ofNat (128 + n % 128) :: enc (n / 128) else [UInt8.ofNat n]
decreasing_by omega
theorem enc_big {n : Nat} (h : n > 127) : enc n = UInt8.ofNat (128 + n % 128) :: enc (n / 128) := by rw [enc, if_pos h]
theorem enc_small {n : Nat} (h : n ≤ 127) : enc n = [UInt8.ofNat n] := by rw [enc, if_neg (by omega)]
theorem enc_ne (n : Nat) : enc n ≠ [] := by
  rw [enc]; split <;> simp
theorem enc_pos (n : Nat) : 1 ≤ (enc n).length := by
  have := enc_ne n
  cases h : enc n with
  | nil => exact absurd h this
  | cons => simp
/-- how many bytes a number has -/
theorem enc_len : ∀ (k n : Nat), n < 128 ^ (k + 1) → (enc n).length ≤ k + 1
  | 0, n, h => by rw [enc_small (by omega)]; simp
  | k + 1, n, h => by
    by_cases hn : n > 127
    · rw [enc_big hn, List.length_cons]
      have := enc_len k (n / 128) (by rw [Nat.pow_succ] at h; omega)
      omega
    · rw [enc_small (by omega)]; simp
theorem enc_len9 {n : Nat} (h : n < 9223372036854775808) : (enc n).length ≤ 9 := enc_len 8 n (by omega)
theorem enc_mono : ∀ (n m : Nat), n ≤ m → (enc n).length ≤ (enc m).length := by
  intro n
  induction n using Nat.strongRecOn with
  | ind n ih =>
    intro m hm
    by_cases hn : n > 127
    · rw [enc_big hn, enc_big (n := m) (by omega), List.length_cons, List.length_cons]
      have := ih (n / 128) (by omega) (m / 128) (by omega)
      omega
    · rw [enc_small (by omega)]
      exact enc_pos m

/-- what the reading of a number answers, behind i bytes of it: the number, how many bytes, the error -/
def numGo : Nat → Nat → Nat → List UInt8 → Nat × Nat × Nat
  | i, _, _, [] => if i ≥ 9 then (0, 0, 2) else (0, 0, 3)
  | i, n, t, c :: r => if i ≥ 9 then (0, 0, 2) else
    if c.toNat < 128 then (if c.toNat = 0 ∧ i > 0 then (0, 0, 2) else (n + c.toNat % 128 * t, i + 1, 0)) else numGo (i + 1) (n + c.toNat % 128 * t) (t * 128) r
def numAns (l : List UInt8) : Nat × Nat × Nat := numGo 0 0 1 l

/-- a number that was laid comes back, whatever stands behind -/
theorem numGo_enc (s : List UInt8) : ∀ (n i a t : Nat), i + (enc n).length ≤ 9 → (i > 0 → n > 0) → numGo i a t (enc n ++ s) = (a + n * t, i + (enc n).length, 0) := by
  intro n
  induction n using Nat.strongRecOn with
  | ind n ih =>
    intro i a t hi h0
    by_cases hn : n > 127
    · rw [enc_big hn, List.length_cons] at hi
      rw [enc_big hn, List.cons_append, numGo, if_neg (by omega), u8_ofNat (by omega), if_neg (by omega), ih (n / 128) (by omega) (i + 1) _ _ (by omega) (by omega), List.length_cons]
      rw [show (128 + n % 128) % 128 = n % 128 by omega]
      have e : n * t = n % 128 * t + n / 128 * (t * 128) := by
        conv => lhs; rw [← Nat.mod_add_div n 128]
        rw [Nat.add_mul]
        congr 1
        rw [Nat.mul_comm 128, Nat.mul_assoc, Nat.mul_comm 128 t]
      rw [e]
      simp only [Prod.mk.injEq, and_true]
      omega
    · rw [enc_small (by omega)] at hi ⊢
      simp only [List.length_singleton] at hi ⊢
      rw [List.singleton_append, numGo, if_neg (by omega), u8_ofNat (by omega), if_pos (by omega), if_neg (by omega), show n % 128 = n by omega]
theorem numAns_enc {n : Nat} (h : n < 9223372036854775808) (s : List UInt8) : numAns (enc n ++ s) = (n, (enc n).length, 0) := by
  have := numGo_enc s n 0 0 1 (by have := enc_len9 h; omega) (by omega)
  simpa [numAns] using this
/-- cut off, it is told to be -/
theorem numGo_cut : ∀ (n i a t k : Nat), i + (enc n).length ≤ 9 → k < (enc n).length → numGo i a t ((enc n).take k) = (0, 0, 3) := by
  intro n
  induction n using Nat.strongRecOn with
  | ind n ih =>
    intro i a t k hi hk
    match k with
    | 0 => rw [List.take_zero, numGo, if_neg (by have := enc_pos n; omega)]
    | k + 1 =>
      by_cases hn : n > 127
      · rw [enc_big hn, List.length_cons] at hi hk
        rw [enc_big hn, List.take_succ_cons, numGo, if_neg (by omega), u8_ofNat (by omega), if_neg (by omega)]
        exact ih (n / 128) (by omega) _ _ _ _ (by omega) (by omega)
      · rw [enc_small (by omega)] at hk
        simp at hk
theorem numAns_cut {n k : Nat} (h : n < 9223372036854775808) (hk : k < (enc n).length) : numAns ((enc n).take k) = (0, 0, 3) :=
  numGo_cut n 0 0 1 k (by have := enc_len9 h; omega) hk

/-- bytes that are read as a number are that number's bytes -/
theorem numGo_once : ∀ (l : List UInt8) (i a t m u : Nat), numGo i a t l = (m, u, 0) → ∃ n, m = a + n * t ∧ u = i + (enc n).length ∧ u ≤ 9 ∧ (i > 0 → n > 0) ∧ ∃ s, l = enc n ++ s
  | [], i, a, t, m, u, h => by
    rw [numGo] at h
    split at h <;> simp at h
  | c :: r, i, a, t, m, u, h => by
    have hc : c.toNat < 256 := c.toNat_lt
    rw [numGo] at h
    by_cases hi : i ≥ 9
    · rw [if_pos hi] at h; simp at h
    · rw [if_neg hi] at h
      by_cases hs : c.toNat < 128
      · rw [if_pos hs] at h
        by_cases hz : c.toNat = 0 ∧ i > 0
        · rw [if_pos hz] at h; simp at h
        · rw [if_neg hz] at h
          simp only [Prod.mk.injEq, and_true] at h
          refine ⟨c.toNat, by rw [← h.1]; congr 2; omega, ?_, by omega, by omega, r, ?_⟩
          · rw [enc_small (by omega)]; simp; omega
          · rw [enc_small (by omega)]; simp
      · rw [if_neg hs] at h
        obtain ⟨n, h1, h2, h3, h4, s, rfl⟩ := numGo_once r _ _ _ _ _ h
        have hn := h4 (by omega)
        have hb : c.toNat % 128 + 128 * n > 127 := by omega
        refine ⟨c.toNat % 128 + 128 * n, ?_, ?_, h3, by omega, s, ?_⟩
        · rw [h1, Nat.add_mul, Nat.add_assoc]
          congr 2
          rw [Nat.mul_comm t, ← Nat.mul_assoc, Nat.mul_comm n]
        · rw [h2, enc_big hb, List.length_cons, show (c.toNat % 128 + 128 * n) / 128 = n by omega]
          omega
        · rw [enc_big hb, show (c.toNat % 128 + 128 * n) / 128 = n by omega, show 128 + (c.toNat % 128 + 128 * n) % 128 = c.toNat by omega]
          simp
theorem numAns_once {l : List UInt8} {m u : Nat} (h : numAns l = (m, u, 0)) : u = (enc m).length ∧ u ≤ 9 ∧ 1 ≤ u ∧ ∃ s, l = enc m ++ s := by
  obtain ⟨n, h1, h2, h3, _, s, rfl⟩ := numGo_once l _ _ _ _ _ h
  simp only [Nat.zero_add, Nat.mul_one] at h1 h2
  subst h1
  have := enc_pos m
  exact ⟨h2, h3, by omega, s, rfl⟩
/-- what is answered beside an error -/
theorem numGo_err : ∀ (l : List UInt8) (i a t : Nat), (numGo i a t l).2.2 = 0 ∨ numGo i a t l = (0, 0, 2) ∨ numGo i a t l = (0, 0, 3)
  | [], i, a, t => by rw [numGo]; split <;> simp
  | c :: r, i, a, t => by
    rw [numGo]
    split
    · simp
    · split
      · split <;> simp
      · exact numGo_err r _ _ _
theorem numAns_err (l : List UInt8) : (numAns l).2.2 = 0 ∨ numAns l = (0, 0, 2) ∨ numAns l = (0, 0, 3) := numGo_err l 0 0 1
/-- the number fits -/
theorem enc_lt {n : Nat} (h : (enc n).length ≤ 9) : n < 9223372036854775808 := by
  have key : ∀ (k n : Nat), (enc n).length ≤ k + 1 → n < 128 ^ (k + 1) := by
    intro k
    induction k with
    | zero =>
      intro n h
      by_cases hn : n > 127
      · rw [enc_big hn, List.length_cons] at h
        have := enc_pos (n / 128); omega
      · omega
    | succ k ih =>
      intro n h
      by_cases hn : n > 127
      · rw [enc_big hn, List.length_cons] at h
        have := ih (n / 128) (by omega)
        rw [Nat.pow_succ]; omega
      · have : 1 ≤ 128 ^ (k + 1) := Nat.pow_pos (by decide)
        rw [Nat.pow_succ]; omega
  exact key 8 n (by omega)
theorem enc_inj {n m : Nat} (hn : n < 9223372036854775808) (h : enc n = enc m) : n = m := by
  have h9 := enc_len9 hn
  have hm := enc_lt (n := m) (by rw [← h]; exact h9)
  have a := numAns_enc hn []
  have b := numAns_enc hm []
  rw [h, b] at a
  simpa using (congrArg (·.1) a).symm
end Go.Proofs.YtbifnogocmgddaaGreat
namespace Go.Proofs.YtbifnogocmgddaaGreat
open Go.RowKit

/-- three results: a number, how many bytes, the error -/
def numVal (x : Nat × Nat × Nat) : Value := .tuple #[.int .i64 (x.1 : Int), .int .i64 (x.2.1 : Int), .int .i64 (x.2.2 : Int)]

end Go.Proofs.YtbifnogocmgddaaGreat
namespace Go.Proofs.YtbifnogocmgddaaGreat
open Go.RowKit

/-- what Text answers: the text, how many bytes, the error -/
def textAns (l : List UInt8) : List UInt8 × Nat × Nat :=
  if (numAns l).2.2 ≠ 0 then ([], 0, (numAns l).2.2) else if (numAns l).1 > 65536 then ([], 0, 6)
  else if l.length - (numAns l).2.1 < (numAns l).1 then ([], 0, 3) else ((l.drop (numAns l).2.1).take (numAns l).1, (numAns l).2.1 + (numAns l).1, 0)
def textVal (x : List UInt8 × Nat × Nat) : Value := .tuple #[.string (strB x.1), .int .i64 (x.2.1 : Int), .int .i64 (x.2.2 : Int)]

set_option maxRecDepth 100000 in
/-- a window of bytes -/
theorem RdB.window {w : World} {B b o c : Nat} {l : List UInt8} (h : RdB w B (.slice (some ⟨b, o, none⟩) l.length c) l) (lo n : Nat) (hn : lo + n ≤ l.length) (c' : Nat) (hc : n ≤ c') (A' : Option Addr) (hA : 0 < n → A' = some ⟨b, o + lo, none⟩) :
    RdB w B (.slice A' n c') ((l.drop lo).take n) := by
  obtain ⟨A, c0, hv, hcl, hi⟩ := h
  injection hv with e1 e2 e3
  subst e1 e3
  have hlen : ((l.drop lo).take n).length = n := by simp; omega
  refine ⟨A', c', by rw [hlen], by rw [hlen]; exact hc, fun i hi' => ?_⟩
  have hin : i < n := by omega
  obtain ⟨b', o', hA', hB, h1⟩ := hi (lo + i) (by omega)
  simp only [Option.some.injEq, Addr.mk.injEq, and_true] at hA'
  obtain ⟨rfl, rfl⟩ := hA'
  refine ⟨b, o + lo, hA (by omega), hB, fun j u hu => ?_⟩
  have := h1 j u (by simpa using hu)
  rw [← this]
  congr 2
  omega

end Go.Proofs.YtbifnogocmgddaaGreat
