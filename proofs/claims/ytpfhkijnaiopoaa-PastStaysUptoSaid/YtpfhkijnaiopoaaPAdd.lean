/- Add. -/
import Derived.Test.YtpfhkijnaiopoaaPAt
import Derived.Test.YtpfhkijnaiopoaaPDel
import Derived.Test.YtpfhkijnaiopoaaGenN
import Derived.Test.YtpfhkijnaiopoaaPlanF
namespace Go.Proofs.Ytpfhkijnaiopoaa
open Go.RowKit

theorem RdD.one (w : World) (d : Dd) : RdD (w.alloc (.cells #[.int .i64 d.1, .int .i64 d.2.kind, .string d.2.key, .string d.2.val] 72)) (w.heap.size + 1) (.slice (some ⟨w.heap.size, 0, none⟩) 1 1) [d] := by
  refine ⟨_, 1, rfl, Nat.le_refl _, fun i hi => ⟨w.heap.size, 0, rfl, Nat.lt_succ_self _, fun j u hu => ?_⟩⟩
  obtain rfl : i = 0 := by simp at hi; omega
  match j, hu with
  | 0, hu =>
    simp only [encD, List.getElem_cons_zero, List.getElem?_cons_zero, Option.some.injEq] at hu
    subst hu
    exact World.cell?_alloc_at _ _ _ _ rfl
  | 1, hu =>
    simp only [encD, List.getElem_cons_zero, List.getElem?_cons_succ, List.getElem?_cons_zero, Option.some.injEq] at hu
    subst hu
    exact World.cell?_alloc_at _ _ _ _ rfl
  | 2, hu =>
    simp only [encD, List.getElem_cons_zero, List.getElem?_cons_succ, List.getElem?_cons_zero, Option.some.injEq] at hu
    subst hu
    exact World.cell?_alloc_at _ _ _ _ rfl
  | 3, hu =>
    simp only [encD, List.getElem_cons_zero, List.getElem?_cons_succ, List.getElem?_cons_zero, Option.some.injEq] at hu
    subst hu
    exact World.cell?_alloc_at _ _ _ _ rfl
  | j + 4, hu => simp [encD] at hu
theorem wp_addD {o : Oper} {a : Act} {K : Act → World → Prop} {Q : Exit → Act → World → Prop} {w : World} (s x : Operand) (ho : o.op = .call { callee := .builtin .append, args := #[s, x], argTypes := #[63, 63] })
    (base : Nat) (v : Value) (l : List Dd) (hs : a.eval s = v) (hown : OwnD w base v l) (B : Nat) (v2 : Value) (p : List Dd) (hx : a.eval x = v2) (hp : RdD w B v2 p) (hl : l.length + p.length ≤ 3000001) (hbase : base ≤ w.heap.size)
    (h : ∀ A' c' w', Hid (OwnD w' base (.slice A' (l ++ p).length c') (l ++ p)) → Hid (w.grownBy w' v.ownBlock) → Hid (NewRow w v.ownBlock (Value.ownBlock (.slice A' (l ++ p).length c'))) → K (a.put o.dst (.slice A' (l ++ p).length c')) w') : o.wp Try.prog a w K Q := by
  obtain ⟨i0, hi, hz0, hz1, hz2⟩ := info_deedE
  exact wp_addAnyN (enc := encD) (k := 4) 63 72 48 i0 _ Try.underlying63 hi hz0 hz1 hz2 rfl (by decide) encD_len encD_one s x ho base v l hs hown B v2 p hx hp (by unfold maxLen; omega) (by omega) hbase fun A' c' w' h1 h2 h3 => h A' c' w' (Lib.hid h1) (Lib.hid h2) (Lib.hid h3)

theorem Own.two {α β : Type} {enc : α → List Value} {enc' : β → List Value} {k k' : Nat} {e e' : TypeId} {w : World} {b b' : Nat} {v v' : Value} {l : List α} {l' : List β} (h : Own enc k e w b v l) (h' : Own enc' k' e' w b' v' l') (hne : e' ≠ e) : v.ownBlock = none ∨ v.ownBlock ≠ v'.ownBlock := by
  rcases h.row with ⟨rfl, _⟩ | ⟨g, cap, cur, rfl, _, hg, _⟩
  · exact .inl rfl
  · exact .inr (h'.apart hg hne)

/-- the Past's blocks while changes are laid down: the first i of cs are among what was done -/
def AddAt (w0 w : World) (base q : Nat) (G : Nat → Prop) (f l : Int) (bv : Value) (bs : Prs) (ds : List Dd) : Prop :=
  ∃ A c, Whole w q 65 [.int .i64 f, .int .i64 l, bv, .slice A ds.length c] ∧ OwnP w base bv bs ∧ OwnD w base (.slice A ds.length c) ds ∧ (∀ i, Value.ownBlock (.slice A ds.length c) = some i → G i ∨ w0.heap.size ≤ i) ∧ Mv G w0 w

set_option maxHeartbeats 8000000 in
set_option maxRecDepth 100000 in
theorem padd_any (base q n : Nat) (G : Nat → Prop) (p : Pa) (v : Int) (cs : List Chg) (vc : Value) (w : World) (h : PaAt w base q G n p) (hv : I64 v) (hr : RdG encC 3 w w.heap.size G vc cs) (hsm : ∀ c ∈ cs, smallC c) (hn : n + cs.length ≤ many) :
    Calls Try.prog 14 #[.pointer (some ⟨q, 0, none⟩), .int .i64 v, vc] w fun e w' => e = .returned (.int .i64 (p.add v cs).1) ∧ ∃ G', PaAt w' base q G' (n + cs.length) (p.add v cs).2 ∧ (∀ i, G' i → G i ∨ w.heap.size ≤ i) ∧ Mv G w w' := by
  have H0 := Lib.hid h
  obtain ⟨⟨bv, dv, bs, ds, hb, hob, hod, hgh, hbg, hdg⟩, hq, hlow⟩ := h
  have c1 := hb.cell 1 _ rfl
  have hkeep : ∀ w', Below w.heap.size w w' → ∃ G', PaAt w' base q G' (n + cs.length) p ∧ (∀ i, G' i → G i ∨ w.heap.size ≤ i) ∧ Mv G w w' := fun w' hb' => by
    obtain ⟨⟨bv, dv, bs, ds, h1, h2, h3, h4, h5, h6⟩, h7, h8⟩ := H0.out.new hb'
    exact ⟨G, ⟨⟨bv, dv, bs, ds, h1, h2, h3, ⟨h4.link, h4.ver, h4.rise, h4.ok, h4.sound, h4.fl, h4.i1, h4.i2, by have := h4.len; omega, hn⟩, h5, h6⟩, h7, h8⟩, fun i hi => .inl hi, Mv.of_new hb' _⟩
  have HK := Lib.hid hkeep; clear hkeep
  by_cases hvl : v ≤ p.last
  · have hadd : p.add v cs = (9, p) := by unfold Pa.add; rw [if_pos hvl]
    rw [hadd]
    clear hb hob hod hgh hbg hdg hlow hq hr hsm
    go_enter Try.func14, Try.ntmps14
    go_wp2_with fail
    go_ret
    exact ⟨rfl, HK.out _ (Below.refl _ _)⟩
  · obtain ⟨A, cc, rfl, hcc, hi⟩ := id hr
    have hcell : ∀ (W : World) (D : Nat → Prop), Mv D w W → (∀ b, D b → G b) → ∀ i (_ : i < cs.length), ∃ b o, A = some ⟨b, o, none⟩ ∧ W.cell? ⟨b, o + i * 3, none⟩ = some (.int .i64 cs[i].kind) ∧ W.cell? ⟨b, o + i * 3 + 1, none⟩ = some (.string cs[i].key) ∧ W.cell? ⟨b, o + i * 3 + 2, none⟩ = some (.string cs[i].val) := fun W D hW hD i hs => by
      obtain ⟨b, o, hA, hB, hG, h1⟩ := hi i hs
      have hbl := hW.block b hB (fun h => hG (hD b h))
      exact ⟨b, o, hA, (World.cell?_of_block hbl).trans (h1 0 _ rfl), (World.cell?_of_block hbl).trans (h1 1 _ rfl), (World.cell?_of_block hbl).trans (h1 2 _ rfl)⟩
    have HC := Lib.hid hcell; clear hcell hi hr
    have HSM := Lib.hid hsm; clear hsm
    have hcl : cs.length ≤ 3000000 := by unfold many at hn; omega
    have hdl : ds.length + cs.length ≤ 3000000 := by have := hgh.len; unfold many at hn; omega
    have hans : p.add v cs = if allAns cs ≠ 0 then (allAns cs, p) else p.add v cs := by
      unfold Pa.add
      rw [if_neg hvl]
      split <;> rfl
    have HGH := Lib.hid hgh; clear hgh
    have HBG := Lib.hid hbg; clear hbg
    have HDG := Lib.hid hdg; clear hdg
    have HQ := Lib.hid hq; clear hq
    have HLOW := Lib.hid hlow; clear hlow
    have HOB := Lib.hid hob; clear hob
    have HOD := Lib.hid hod; clear hod
    have HB := Lib.hid hb; clear hb
    obtain ⟨R, hR⟩ : ∃ R, R = p.add v cs := ⟨_, rfl⟩
    rw [← hR] at hans ⊢
    have HANS := Lib.hid hans; clear hans
    have HRR := Lib.hid hR; clear hR
    go_enter Try.func14, Try.ntmps14
    go_wp2_with fail
    go_loopw [24] (fun iv wr => ∃ i : Nat, i ≤ cs.length ∧ iv = .int .i64 i ∧ Hid (Below w.heap.size w wr) ∧ Hid (allAns cs = allAns (cs.drop i))) (fun iv _ => cs.length - (intOf iv).toNat)
    case atStart => exact ⟨0, Nat.zero_le _, rfl, Lib.hid (Below.refl _ _), Lib.hid rfl⟩
    case round =>
      obtain ⟨i, hil, rfl, HBW, HAL⟩ := hrel
      by_cases hlt : i < cs.length
      · obtain ⟨b, o, rfl, k0, k1, k2⟩ := HC.out wr (fun _ => False) (Mv.of_new HBW.out _) (fun _ h => h.elim) i hlt
        have hck := fun W => pcheck_any cs[i] W (by have := HSM.out _ (List.getElem_mem hlt); unfold smallC at this; omega) (by have := HSM.out _ (List.getElem_mem hlt); unfold smallC at this; omega)
        have hal := HAL.out
        rw [List.drop_eq_getElem_cons hlt, allAns] at hal
        generalize cs[i] = z at k0 k1 k2 hck hal
        obtain ⟨r, hr⟩ : ∃ r, r = checkAns z := ⟨_, rfl⟩
        rw [← hr] at hck hal
        clear hr
        obtain ⟨kz, xz, yz⟩ := z
        unfold cval at hck
        simp only at k0 k1 k2 hck
        have HCK := Lib.hid hck; clear hck
        have hws := HBW.out.size
        by_cases hr0 : r = 0
        · subst hr0
          rw [if_pos rfl] at hal
          have HAL2 := Lib.hid hal; clear hal
          go_wp2_with fail
          refine (HCK.out _).mono ?_
          rintro e w2 ⟨rfl, hb2⟩
          have HB2 := Lib.hid ((HBW.out.alloc hws (.cells #[.int .i64 kz, .string xz, .string yz] 67)).trans (hb2.mono (by simp; omega)))
          clear hb2 k0 k1 k2
          go_wp2_with fail
          go_roundw
          case rel => exact ⟨i + 1, by omega, by go_num, HB2, HAL2⟩
          case measure => simp [intOf]; omega
        · rw [if_neg hr0] at hal
          have HAL2 := Lib.hid hal; clear hal
          have hr1 : (r == 0) = false := by simpa using hr0
          go_wp2_with fail
          refine (HCK.out _).mono ?_
          rintro e w2 ⟨rfl, hb2⟩
          have HB2 := Lib.hid ((HBW.out.alloc hws (.cells #[.int .i64 kz, .string xz, .string yz] 67)).trans (hb2.mono (by simp; omega)))
          clear hb2 k0 k1 k2
          go_wp2_with fail
          go_ret
          have hh := HANS.out
          rw [HAL2.out, if_pos hr0] at hh
          rw [hh]
          exact ⟨rfl, HK.out _ HB2.out⟩
      · obtain rfl : i = cs.length := by omega
        have hz : allAns cs = 0 := by rw [HAL.out, List.drop_length]; rfl
        have HZ := Lib.hid hz; clear hz
        have hB := HB.out.below HBW.out HB.out.size
        have hob := HOB.out.below HBW.out (Nat.le_refl _)
        have hod := HOD.out.below HBW.out (Nat.le_refl _)
        have hrow : ∃ A' c', dv = .slice A' ds.length c' := by
          rcases hod.form with ⟨h, h0⟩ | ⟨x, y, h, _⟩
          · exact ⟨none, 0, by rw [h, h0]; rfl⟩
          · exact ⟨_, _, h⟩
        obtain ⟨A1, c1', rfl⟩ := hrow
        have HA0 := Lib.hid (show AddAt w wr base q G p.first p.last bv bs (ds ++ (cs.take 0).map (fun c => (v, c))) by
          simp only [List.take_zero, List.map_nil, List.append_nil]
          exact ⟨A1, c1', hB, hob, hod, fun i hi => .inl (HDG.out i hi), Mv.of_new HBW.out _⟩)
        clear hB hob hod
        go_wp2_with fail
        go_loopw [36] (fun iv wt => ∃ i : Nat, i ≤ cs.length ∧ iv = .int .i64 i ∧ Hid (AddAt w wt base q G p.first p.last bv bs (ds ++ (cs.take i).map (fun c => (v, c))))) (fun iv _ => cs.length - (intOf iv).toNat)
        case atStart => exact ⟨0, Nat.zero_le _, rfl, HA0⟩
        case round =>
          obtain ⟨i, hil2, rfl, HA⟩ := hrel
          obtain ⟨A2, c2, a1, a2, a3, a4, a5⟩ := HA.out
          have hbw : base ≤ wr.heap.size := Nat.le_trans HLOW.out.1 a5.size
          by_cases hlt : i < cs.length
          · obtain ⟨b, o, rfl, k0, k1, k2⟩ := HC.out wr G a5 (fun _ h => h) i hlt
            have hnext : ds ++ (cs.take (i + 1)).map (fun c => (v, c)) = (ds ++ (cs.take i).map (fun c => (v, c))) ++ [(v, cs[i])] := by
              rw [List.take_succ_eq_append_getElem hlt, List.map_append, List.append_assoc]; rfl
            have hll : (ds ++ (cs.take i).map (fun c => (v, c))).length ≤ 3000000 := by simp; omega
            generalize ds ++ (cs.take i).map (fun c => (v, c)) = L at hnext hll a1 a3 a4
            generalize cs[i] = z at k0 k1 k2 hnext
            obtain ⟨kz, xz, yz⟩ := z
            simp only at k0 k1 k2
            have HN := Lib.hid hnext; clear hnext
            have hqs := a1.size
            have A1H := Lib.hid a1; clear a1
            have A2H := Lib.hid a2; clear a2
            have A3H := Lib.hid a3; clear a3
            have A4H := Lib.hid a4; clear a4
            have A5H := Lib.hid a5; clear a5
            go_wp2_with fail
            obtain ⟨w3, hw3⟩ : ∃ w3, w3 = (wr.alloc (.cells #[.int .i64 kz, .string xz, .string yz] 67)).drew := ⟨_, rfl⟩
            have hgr : ∀ (W : World), W = (wr.alloc (.cells #[.int .i64 kz, .string xz, .string yz] 67)).drew → Whole W q 65 [.int .i64 p.first, .int .i64 p.last, bv, .slice A2 L.length c2] ∧ Whole W wr.heap.size 67 [.int .i64 kz, .string xz, .string yz] ∧ OwnP W base bv bs ∧ OwnD W base (.slice A2 L.length c2) L ∧ Mv G w W ∧ wr.heap.size < W.heap.size := fun W hW => by
              rw [hW]
              exact ⟨(A1H.out.alloc _).drew, (Whole.fresh wr 67 [_, _, _]).drew, (A2H.out.alloc _).drew, (A3H.out.alloc _).drew, (A5H.out.alloc _).drew, by show _ < (wr.alloc _).heap.size; simp⟩
            obtain ⟨g1, g2, g3, g4, g5, g6⟩ := hgr w3 hw3
            clear hgr
            refine wp_region_planF (fun W => Whole W q 65 [.int .i64 p.first, .int .i64 p.last, bv, .slice A2 L.length c2] ∧ Whole W wr.heap.size 67 [.int .i64 kz, .string xz, .string yz]) 12 [(true, 0), (true, 1), (true, 2), (true, 3), (true, 4), (true, 5), (true, 6), (true, 7), (false, 8), (false, 9), (false, 10), (true, 11), (false, 12)] (by kernel_rfl) (by kernel_rfl) (fun _ _ d _ _ h => by cases d <;> exact h) (by rw [← hw3]; exact ⟨g1, g2⟩) ?_
            rw [← hw3]
            clear hw3 k0 k1 k2
            iterate 8 (refine PlanF.take (v := ?_) rfl rfl ?_ ?_; rotate_left; (focus (intro W hW; have m0 := hW.1.cell 3 _ rfl; have m1 := hW.2.cell 0 _ rfl; have m2 := hW.2.cell 1 _ rfl; have m3 := hW.2.cell 2 _ rfl; go_simp; (try with_reducible rfl); done)); (try simp only [Act.put, List.setIfInBounds_toArray, List.set_cons_zero, List.set_cons_succ]))
            refine PlanF.step rfl rfl (fun Kk hK => ?_)
            go_simp
            have g1' := g1.alloc (.cells #[.int .i64 v, .int .i64 kz, .string xz, .string yz] 72)
            have g2' := g2.alloc (.cells #[.int .i64 v, .int .i64 kz, .string xz, .string yz] 72)
            have g3' := g3.alloc (.cells #[.int .i64 v, .int .i64 kz, .string xz, .string yz] 72)
            have g4' := g4.alloc (.cells #[.int .i64 v, .int .i64 kz, .string xz, .string yz] 72)
            have g5' := g5.alloc (.cells #[.int .i64 v, .int .i64 kz, .string xz, .string yz] 72)
            have hrd := RdD.one w3 (v, ⟨kz, xz, yz⟩)
            have hsz3 : (w3.alloc (.cells #[.int .i64 v, .int .i64 kz, .string xz, .string yz] 72)).heap.size = w3.heap.size + 1 := by simp
            obtain ⟨w4, hw4⟩ : ∃ w4, w4 = w3.alloc (.cells #[.int .i64 v, .int .i64 kz, .string xz, .string yz] 72) := ⟨_, rfl⟩
            simp only at hrd
            rw [← hw4] at g1' g2' g3' g4' g5' hrd hsz3 ⊢
            clear hw4
            refine hK.out _ _ ⟨g1', g2'⟩ ?_
            clear hK Kk
            (try simp only [Act.put, List.setIfInBounds_toArray, List.set_cons_zero, List.set_cons_succ])
            refine PlanF.step rfl rfl (fun Kk hK => ?_)
            refine wp_addD _ _ rfl base (.slice A2 L.length c2) L rfl g4' _ _ [(v, ⟨kz, xz, yz⟩)] rfl hrd (by simp; omega) (by omega) ?_
            intro A5 c5 w5 ho5 hg5 hn5
            have hne := g4'.apart g1' (by decide)
            have g1'' := g1'.grown hg5.out hne
            have g2'' := g2'.grown hg5.out (g4'.apart g2' (by decide))
            have g3'' := g3'.kept hg5.out (g3'.two g4' (by decide))
            have g5'' := g5'.grown hg5.out (fun i hi he => (A4H.out i he.symm).resolve_right (by omega))
            have hown5 : ∀ i, Value.ownBlock (.slice A5 (L ++ [(v, (⟨kz, xz, yz⟩ : Chg))]).length c5) = some i → G i ∨ w.heap.size ≤ i := fun i hi => by
              rcases hn5.out i hi with h | h
              · exact A4H.out i h
              · exact .inr (Nat.le_trans g5'.size h)
            have HN2 := HN.out
            rw [← HN2] at ho5 hown5 ⊢
            generalize hLL : ds ++ (cs.take (i + 1)).map (fun c => (v, c)) = L2 at ho5 hown5 ⊢
            have HLL := Lib.hid hLL; clear hLL HN2
            have HOW := Lib.hid hown5; clear hown5
            refine hK.out _ _ ⟨g1'', g2''⟩ ?_
            clear hK Kk
            (try simp only [Act.put, List.setIfInBounds_toArray, List.set_cons_zero, List.set_cons_succ])
            refine PlanF.step rfl rfl (fun Kk hK => ?_)
            go_simp
            refine hK.out _ _ ⟨g1'', g2''⟩ ?_
            clear hK Kk
            (try simp only [Act.put, List.setIfInBounds_toArray, List.set_cons_zero, List.set_cons_succ])
            iterate 1 (refine PlanF.take (v := ?_) rfl rfl ?_ ?_; rotate_left; (focus (intro W hW; go_simp; (try with_reducible rfl); done)); (try simp only [Act.put, List.setIfInBounds_toArray, List.set_cons_zero, List.set_cons_succ]))
            refine PlanF.last rfl rfl (fun Kk hK => ?_)
            have q3 := g1''.cell 3 _ rfl
            have q3f := g1''.frozen 3
            go_simp
            refine hK.out _ _ ?_
            clear hK Kk
            (try simp only [Act.put, List.setIfInBounds_toArray, List.set_cons_zero, List.set_cons_succ])
            have hAd : AddAt w (w5.setCell ⟨q, 3, none⟩ (.slice A5 L2.length c5)) base q G p.first p.last bv bs L2 := by
              refine ⟨A5, c5, g1''.put 3 _, ?_, ?_, HOW.out, g5''.setCell (p := ⟨q, 3, none⟩) (fun _ => HQ.out) _⟩
              · exact g3''.put g1'' (by decide) 3 _
              · exact ho5.out.put g1'' (by decide) 3 _
            have HAD := Lib.hid hAd; clear hAd
            clear q3 q3f
            go_wp2_with fail
            go_roundw
            case rel => exact ⟨i + 1, by omega, by go_num, by rw [HLL.out]; exact HAD⟩
            case measure => simp [intOf]; omega
          · obtain rfl : i = cs.length := by omega
            rw [List.take_length] at a1 a3 a4
            have hqs := a1.size
            have hfz := a1.frozen 1
            have hc1 := a1.cell 1 _ rfl
            generalize hL : ds ++ cs.map (fun c => (v, c)) = L at a1 a3 a4
            have A1H := Lib.hid a1; clear a1
            have A2H := Lib.hid a2; clear a2
            have A3H := Lib.hid a3; clear a3
            have A4H := Lib.hid a4; clear a4
            have A5H := Lib.hid a5; clear a5
            go_wp2_with fail
            go_ret
            have hoks := allAns_all HZ.out
            obtain ⟨p', e1, e2, e3, e4⟩ := HGH.out.add hv (by omega) hoks hn
            have hRR := HRR.out
            rw [e1] at hRR
            rw [hRR]
            refine ⟨rfl, fun i => G i ∨ Value.ownBlock (.slice A2 L.length c2) = some i, ⟨⟨bv, .slice A2 L.length c2, bs, L, ?_, ?_, ?_, by rw [← hL]; exact e4, fun i hi => .inl (HBG.out i hi), fun i hi => .inr hi⟩, .inl HQ.out, ?_, ?_⟩, fun i hi => ?_, ?_⟩
            · have := A1H.out.put 1 (.int .i64 v)
              rw [e2, e3]
              exact this
            · exact A2H.out.put A1H.out (by decide) 1 _
            · exact A3H.out.put A1H.out (by decide) 1 _
            · simp only [World.size_setCell]; exact hbw
            · intro i hi
              simp only [World.size_setCell]
              rcases hi with hi | hi
              · exact ⟨(HLOW.out.2 i hi).1, Nat.lt_of_lt_of_le (HLOW.out.2 i hi).2 A5H.out.size⟩
              · exact A3H.out.low hi
            · rcases hi with hi | hi
              · exact .inl hi
              · exact A4H.out i hi
            · exact A5H.out.setCell (p := ⟨q, 1, none⟩) (fun _ => HQ.out) _
end Go.Proofs.Ytpfhkijnaiopoaa
