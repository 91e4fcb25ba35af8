/- The program's Marks: Judge; all calls of it. The key just behind a key: nothing lies between. The simplest facts, which each statement of the marks layer asks first. The simplest facts of the marks layer hold. The reference's Marks: Judge. How the reference's Size gathers pieces, and counts them: pure. The reference's Marks: Size. Acts of marks as they come in; the program's marks beside the reference's. Transactions as arguments: one that came in, some of a list; pure facts for the small laws. Arguments of the marks laws as data: changes, spans, transactions, lists of them, acts. -/
import Derived.Test.YtcmpbhcldaogiaaFag
import Derived.Test.YtcmpbhcldaogiaaFaa
import Derived.Test.YtcmpbhcldaogiaaFac
namespace Go.Proofs.Ytcmpbhcldaogiaa
open Go.RowKit

theorem MkAt.wide {w : World} {base q n n' : Nat} {G : Nat → Prop} {m : Mk} (h : MkAt w base q G n m) (hn : n ≤ n') (hn2 : n' ≤ 64) : MkAt w base q G n' m := by
  obtain ⟨ov, L, h1, h2, h3, h4, h5, h6, h7⟩ := h
  exact ⟨ov, L, h1, h2, h3, h4, by omega, h6, hn2⟩
theorem PmW.grow {w w' w2 : World} {base q : Nat} {ov ov' : Option Nat} {floor : Int} {L : List Wr} {α : Type} {enc : α → List Value} {k : Nat} {e : TypeId} {v : Value} {l : List α} (h : PmW w w' base q ov floor L ov') (ho : Own enc k e w' w.heap.size v l) (h1 : e ≠ 51) (h2 : e ≠ 60) (hg : w'.grownBy w2 v.ownBlock) : PmW w w2 base q ov floor L ov' :=
  ⟨h.now.grown ho h1 h2 hg, h.moved.trans (Mv.of_grown hg) (fun i hi e => by have := (ho.low e.symm).1; omega), h.new⟩
theorem wrote_note {M : Mk} {t : Txn} {v : Int} {R : List (K × K)} (hf : Fits R (fun k => mem (t.chgs.map cspan) k)) : (wrote M v t).f = noteF R v M.f := by
  funext k
  unfold wrote noteF
  simp only
  by_cases h : keysOf t k
  · rw [if_pos h, if_pos ((hf.2 k).2 h)]
  · rw [if_neg h, if_neg (fun h2 => h ((hf.2 k).1 h2))]
theorem Top.wrote {M : Mk} (h : Top M) (v : Int) (t : Txn) : Top (wrote M v t) := by
  by_cases he : ∃ k, keysOf t k
  · obtain ⟨k, hk⟩ := id he
    right
    refine ⟨k, ?_⟩
    unfold Go.Proofs.Ytcmpbhcldaogiaa.wrote
    simp only
    rw [if_pos hk, if_pos he]
  · have e1 : (Go.Proofs.Ytcmpbhcldaogiaa.wrote M v t).most = M.most := by unfold Go.Proofs.Ytcmpbhcldaogiaa.wrote; simp only; rw [if_neg he]
    rcases h with h | ⟨k, hk⟩
    · left; rw [e1]; exact h
    · right
      refine ⟨k, ?_⟩
      rw [e1, ← hk]
      unfold Go.Proofs.Ytcmpbhcldaogiaa.wrote
      simp only
      rw [if_neg (fun hk2 => he ⟨k, hk2⟩)]
theorem take_mapM {α β : Type} (f : α → β) (l : List α) (i : Nat) (h : i < l.length) : (l.map f).take (i + 1) = (l.map f).take i ++ [f l[i]] := by
  rw [List.take_add_one, List.getElem?_map, List.getElem?_eq_getElem h]
  rfl

set_option maxHeartbeats 16000000 in
set_option maxRecDepth 100000 in
theorem mkjudge_any (base q n : Nat) (G : Nat → Prop) (m : Mk) (v : Int) (hv : I64 v) (ts : List TxV) (vv : Value) (w : World) (h : MkAt w base q G n m) (hr : RdTx w w.heap.size G vv ts) (hf : ∀ x ∈ ts, fitT x.t) (hi : ∀ x ∈ ts, I64 x.t.read) (hn : n ≤ 60) :
    Calls Try.prog 11 #[.pointer (some ⟨q, 0, none⟩), .int .i64 v, vv] w fun e w' => ∃ A cap, e = .returned (.tuple #[.slice A (jout m v (ts.map (·.t))).length cap, .int .i64 (jerr m v (ts.map (·.t)))]) ∧
      ∃ G', MkAt w' base q G' (n + 4) (jnext m v (ts.map (·.t))) ∧ (∀ i, G' i → G i ∨ w.heap.size ≤ i) ∧ Mv G w w' ∧ RdG encI 1 w' w'.heap.size (fun i => G' i ∨ Else w G i) (.slice A (jout m v (ts.map (·.t))).length cap) (jout m v (ts.map (·.t))) := by
  obtain ⟨E, hE⟩ : ∃ E, E = jerr m v (ts.map (·.t)) := ⟨_, rfl⟩
  obtain ⟨O, hO⟩ : ∃ O, O = jout m v (ts.map (·.t)) := ⟨_, rfl⟩
  obtain ⟨N, hN⟩ : ∃ N, N = jnext m v (ts.map (·.t)) := ⟨_, rfl⟩
  rw [← hE, ← hO, ← hN]
  unfold jout at hO
  unfold jnext at hN
  rw [← hE] at hO hN
  have hbad : ∀ c : Int, c ≠ 0 → E = c → O = [] ∧ N = m := fun c hc he => by
    rw [if_neg (by omega)] at hO hN
    exact ⟨hO, hN⟩
  have HBAD := Lib.hid hbad; clear hbad
  have HMK := Lib.hid h
  have hstay : ∀ w', Below w.heap.size w w' → ∃ G', MkAt w' base q G' (n + 4) m ∧ (∀ i, G' i → G i ∨ w.heap.size ≤ i) ∧ Mv G w w' ∧ RdG encI 1 w' w'.heap.size (fun i => G' i ∨ Else w G i) (.slice none 0 0) [] := fun w' hb =>
    ⟨G, (h.mv (Mv.of_below hb) (fun i hi => by have := h.low.2 i hi; omega)).wide (by omega) (by omega), fun i hi => .inl hi, Mv.of_new hb _, RdG.none_ _ _ _ _ _⟩
  have HSTAY := Lib.hid hstay; clear hstay
  obtain ⟨ov, L, h1, rfl, h2, h3, h4, h5, h6⟩ := h
  have hnew := newest_any q m.floor L w h1.rd (by omega)
  have hiff := h2.newest h5 h3 v
  have hsnd := fun W (hb : Below w.heap.size w W) => psound_any ts (PmD q ov) vv W ((hr.mv (Mv.of_below hb) (Nat.le_refl _) (fun b h1 h2 => by omega)).mono hb.size (fun _ _ h => h)) hf hi
  obtain ⟨A0, c0, hvv, hc0, hcel⟩ := hr.at
  subst hvv
  have HNEW := Lib.hid hnew; clear hnew
  have HSND := Lib.hid hsnd; clear hsnd
  have HCE := Lib.hid hcel; clear hcel
  have HPA := Lib.hid hr.parts; clear hr
  have HFI := Lib.hid hf; clear hf
  have H1 := Lib.hid h1
  have H2 := Lib.hid h2; clear h2
  have H3 := Lib.hid h3; clear h3
  have H5 := Lib.hid h5; clear h5
  have hqs := h1.size
  have HROW := Lib.hid (show ∀ g, ov = some g → g < w.heap.size from fun g hg => (h1.row hg).2)
  clear h1 hi
  unfold jerr at hE
  by_cases hlow : v ≤ newestL m.floor L
  · rw [if_pos (hiff.1 hlow)] at hE
    obtain ⟨e1, e2⟩ := HBAD.out 9 (by omega) hE
    clear hO hN hiff
    subst hE e1 e2
    go_enter Try.func11, Try.ntmps11
    go_wp2_with fail
    refine HNEW.out.mono ?_
    rintro e w1 ⟨rfl, hb1⟩
    have HS := Lib.hid (HSTAY.out w1 hb1); clear hb1
    go_wp2_with fail
    go_ret2
    exact ⟨_, _, rfl, HS.out⟩
  rw [if_neg (fun h => hlow (hiff.2 h))] at hE
  have hfv : m.floor < v ∧ m.most < v := by
    have h1 : ¬ (v ≤ m.floor ∨ v ≤ m.most) := fun h => hlow (hiff.2 h)
    omega
  clear hiff
  by_cases hso : ¬ (ts.length ≤ 4 ∧ ∀ x ∈ ts, soundT x.t)
  · have he : E = 2 := by
      rw [hE, if_pos]
      rw [List.length_map]
      by_cases hl : ts.length ≤ 4
      · right
        by_cases hall : ∀ x ∈ ts, soundT x.t
        · exact absurd ⟨hl, hall⟩ hso
        · simp only [Classical.not_forall] at hall
          obtain ⟨x, hx, hns⟩ := hall
          exact ⟨x.t, List.mem_map.2 ⟨x, hx, rfl⟩, hns⟩
      · left; omega
    obtain ⟨e1, e2⟩ := HBAD.out 2 (by omega) he
    clear hO hN hE
    subst he e1 e2
    rw [decide_eq_false hso] at HSND
    clear hso
    go_enter Try.func11, Try.ntmps11
    go_wp2_with fail
    refine HNEW.out.mono ?_
    rintro e w1 ⟨rfl, hb1⟩
    have HB1 := Lib.hid hb1; clear hb1
    go_wp2_with fail
    refine (HSND.out w1 HB1.out).mono ?_
    rintro e w2 ⟨rfl, hb2⟩
    have HS := Lib.hid (HSTAY.out w2 (HB1.out.trans (hb2.mono HB1.out.size))); clear hb2
    go_wp2_with fail
    go_ret2
    exact ⟨_, _, rfl, HS.out⟩
  rw [Classical.not_not] at hso
  have he : E = 0 := by
    rw [hE, if_neg]
    rw [List.length_map]
    rintro (h1 | ⟨t, ht, hns⟩)
    · omega
    · obtain ⟨x, hx, rfl⟩ := List.mem_map.1 ht
      exact hns (hso.2 x hx)
  rw [if_pos he] at hO hN
  clear hE
  subst he
  rw [decide_eq_true hso] at HSND
  have HSO := Lib.hid hso.2
  have hlen4 := hso.1
  have HO := Lib.hid hO
  have HN := Lib.hid hN
  clear hso hO hN HBAD HSTAY HMK
  go_enter Try.func11, Try.ntmps11
  go_wp2_with fail
  refine HNEW.out.mono ?_
  rintro e w1 ⟨rfl, hb1⟩
  have HB1 := Lib.hid hb1; clear hb1
  go_wp2_with fail
  refine (HSND.out w1 HB1.out).mono ?_
  rintro e w2 ⟨rfl, hb2⟩
  have HPW2 := Lib.hid ((PmW.refl H1.out).after (HB1.out.trans (hb2.mono HB1.out.size)))
  clear hb2 HSND HNEW HB1 hlow
  go_wp2_with fail
  go_loopw [8, 26] (fun sv iv wr => ∃ (i : Nat) (A' : Option Addr) (c' : Nat) (ovi : Option Nat) (Li : List Wr), i ≤ ts.length ∧ iv = .int .i64 (i : Int) ∧ sv = .slice A' i c' ∧ Hid (OwnI wr w.heap.size (.slice A' i c') (judgeL m v ((ts.map (·.t)).take i))) ∧ Hid (PmW w wr base q ov m.floor Li ovi) ∧ Hid (Rep (judgeM m v ((ts.map (·.t)).take i)).f m.floor Li ∧ Top (judgeM m v ((ts.map (·.t)).take i))) ∧ Li.length ≤ L.length + 48 * i) (fun _ iv _ => ts.length - (intOf iv).toNat)
  case atStart => exact ⟨0, none, 0, ov, L, Nat.zero_le _, rfl, rfl, Lib.hid (Own.nil _ _), HPW2, Lib.hid ⟨H2.out, H3.out⟩, by omega⟩
  case round =>
    obtain ⟨i, A', c', ovi, Li, hil, rfl, rfl, HOI, HPW, HRT, hLi⟩ := hrel
    clear HPW2
    by_cases hlt : i < ts.length
    · obtain ⟨b, o, rfl, hbB, hbG, k0, k1, k2⟩ := HCE.out i hlt
      have hcw : ∀ j, wr.cell? ⟨b, j, none⟩ = w.cell? ⟨b, j, none⟩ := fun j => by unfold World.cell?; rw [HPW.out.moved.block b hbB hbG]
      rw [← hcw] at k0 k1 k2
      have hmem := List.getElem_mem hlt
      have hp := HPA.out _ hmem
      have hft := HFI.out _ hmem
      have hst := HSO.out _ hmem
      have hsn := judge_snoc ((ts.map (·.t)).take i) m v ts[i].t
      rw [← take_mapM (fun x : TxV => x.t) ts i hlt] at hsn
      obtain ⟨hok', hmost', hfloor'⟩ := Mk.Ok.judgeM ((ts.map (·.t)).take i) H5.out (v := v) (by omega) hv.2
      obtain ⟨M', hM'⟩ : ∃ M', judgeM m v ((ts.map (·.t)).take i) = M' := ⟨_, rfl⟩
      obtain ⟨J', hJ'⟩ : ∃ J', judgeL m v ((ts.map (·.t)).take i) = J' := ⟨_, rfl⟩
      have hJl : J'.length = i := by rw [← hJ', judgeL_len, List.length_take, List.length_map]; omega
      rw [hM', hJ'] at hsn
      rw [hM'] at hok' hmost' hfloor' HRT
      rw [hJ'] at HOI
      rw [← hfloor'] at HRT
      have hpm : ∀ W, Below wr.heap.size wr W → PmL W base q ovi M'.floor Li := fun W hW => by rw [hfloor']; exact HPW.out.now.new hW
      have hrd1 : ∀ W, Below wr.heap.size wr W → RdP W W.heap.size ts[i].v1 ts[i].t.reads := fun W hW => by
        have hm : Mv (PmD q ov) w W := (HPW.out.after hW).moved
        exact (hp.1.mv hm (Nat.le_refl _) (fun _ _ h => h)).rd.mono hm.size
      have hrd2 : ∀ W, Below wr.heap.size wr W → RdC W W.heap.size ts[i].v2 ts[i].t.chgs := fun W hW => by
        have hm : Mv (PmD q ov) w W := (HPW.out.after hW).moved
        exact (hp.2.mv hm (Nat.le_refl _) (fun _ _ h => h)).rd.mono hm.size
      have hver := fun W (hW : Below wr.heap.size wr W) => pverdict_any q Li M' HRT.out.1 hok' (by omega) ts[i].t hst ts[i].v1 ts[i].v2 W (hpm W hW).rd (hrd1 W hW)
      have hnote := fun W (hW : Below wr.heap.size wr W) => note_any base q ovi M' Li v ts[i].t.chgs ts[i].v2 W (hpm W hW) HRT.out.1 (by rw [hfloor']; omega) hft.2.2.2 hst.2.2.2.2 hst.2.2.2.1 (hrd2 W hW) (by omega)
      have hs1 : ∃ A1 c1, ts[i].v1 = .slice A1 ts[i].t.reads.length c1 := by obtain ⟨A1, c1, e, _⟩ := hp.1.rd; exact ⟨A1, c1, e⟩
      have hs2 : ∃ A2 c2, ts[i].v2 = .slice A2 ts[i].t.chgs.length c2 := by obtain ⟨A2, c2, e, _⟩ := hp.2.rd; exact ⟨A2, c2, e⟩
      clear hp hft hst hmem hrd1 hrd2 hpm hcw
      generalize ts[i] = x at k0 k1 k2 hsn hver hnote hs1 hs2
      obtain ⟨t, v1, v2⟩ := x
      unfold tval at hver
      simp only at k0 k1 k2 hsn hver hnote hs1 hs2
      obtain ⟨A1, c1, rfl⟩ := hs1
      obtain ⟨A2, c2, rfl⟩ := hs2
      have HVER := Lib.hid hver; clear hver
      have HNOTE := Lib.hid hnote; clear hnote
      have HSN := Lib.hid hsn; clear hsn
      have HJL := Lib.hid hJl; clear hJl hJ' hM'
      have HFL := Lib.hid hfloor'; clear hfloor'
      obtain ⟨w3, hw3⟩ : ∃ w3, wr.alloc (.cells #[.int .i64 t.read, .slice A1 t.reads.length c1, .slice A2 t.chgs.length c2] 32) = w3 := ⟨_, rfl⟩
      have hb3 : Below wr.heap.size wr w3 := by rw [← hw3]; exact (Below.refl _ _).alloc (Nat.le_refl _) _
      have hx3 : Whole w3 wr.heap.size 32 [.int .i64 t.read, .slice A1 t.reads.length c1, .slice A2 t.chgs.length c2] := by rw [← hw3]; exact Whole.fresh wr _ [_, _, _]
      have y0 := hx3.cell 0 _ rfl
      have y1 := hx3.cell 1 _ rfl
      have y2 := hx3.cell 2 _ rfl
      have HX3 := Lib.hid hx3
      have HB3 := Lib.hid hb3
      clear hb3 hx3
      have hwzr : w.heap.size ≤ wr.heap.size := HPW.out.moved.size
      have hi4 : i < 4 := by omega
      by_cases hv1 : verd M' t = 1
      · rw [hv1] at HVER
        have hj1 : judge1 M' v t = wrote M' v t := by unfold judge1; rw [if_pos hv1]
        have HJ1 := Lib.hid hj1; clear hj1
        go_wp2_with fail
        have HW3 := Lib.hid hw3; clear hw3
        refine (HVER.out _ HB3.out).mono ?_
        rintro e w4 ⟨rfl, hb4⟩
        have hb34 : Below wr.heap.size wr w4 := HB3.out.trans (hb4.mono HB3.out.size)
        have x2 := (HX3.out.below hb4 HX3.out.size).cell 2 _ rfl
        have HB4 := Lib.hid hb34
        clear hb4 hb34 y0 y1 y2 k0 k1 k2
        go_wp2_with fail
        refine (HNOTE.out _ HB4.out).mono ?_
        rintro e w5 ⟨rfl, ov5, L5, R, hp5, hf5, hr5, hl5⟩
        rw [HFL.out] at hp5
        have hoi4 : OwnI w4 w.heap.size (.slice A' i c') J' := HOI.out.below HB4.out (Nat.le_refl _)
        have hp4 : PmW w w4 base q ov m.floor Li ovi := HPW.out.after HB4.out
        have hoi5 : OwnI w5 w.heap.size (.slice A' i c') J' := hp4.now.keeps hoi4 (by decide) (by decide) hp5.moved
        have hp5' : PmW w w5 base q ov m.floor L5 ov5 := hp4.trans hp5
        have hrt5 : Rep (judgeM m v ((ts.map (·.t)).take (i + 1))).f m.floor L5 ∧ Top (judgeM m v ((ts.map (·.t)).take (i + 1))) := by
          rw [HSN.out.2, HJ1.out]
          exact ⟨by rw [wrote_note hf5, ← HFL.out]; exact hr5, HRT.out.2.wrote v t⟩
        have HP5 := Lib.hid (hp5'.after ((Below.refl _ w5).alloc (Nat.le_refl _) (.cells #[.int .i64 1] 3)))
        have HO5 := Lib.hid (hoi5.alloc (.cells #[.int .i64 1] 3))
        have HRT5 := Lib.hid hrt5
        have HRD := Lib.hid (RdI.one w5 1)
        have hz5 : w.heap.size ≤ (w5.alloc (.cells #[.int .i64 1] 3)).heap.size := by have := hp5'.moved.size; simp; omega
        have HZ5 := Lib.hid hz5
        clear hoi4 hp4 hoi5 hp5' hrt5 hp5 hf5 hr5 x2 hz5
        go_wp2_with (at_builtin; go_must (refine wpList_addIm rfl _ _ rfl w.heap.size (.slice A' i c') J' rfl HO5.out (w5.heap.size + 1) (.slice (some ⟨w5.heap.size, 0, none⟩) 1 1) [1] rfl HRD.out (by rw [HJL.out]; simp only [List.length_cons, List.length_nil]; omega) HZ5.out ?_))
        intro A6 c6 w6 ho6 hg6
        have hj6 : judgeL m v ((ts.map (·.t)).take (i + 1)) = J' ++ [1] := by rw [HSN.out.1, hv1]
        have hl6 : (J' ++ [(1 : Int)]).length = i + 1 := by rw [List.length_append, HJL.out]; rfl
        have HP6 := Lib.hid (HP5.out.grow HO5.out (by decide) (by decide) hg6.out)
        have HJ6 := Lib.hid hj6
        have HL6 := Lib.hid hl6
        have ho6' := ho6.out
        clear hj6 hl6 hg6 ho6
        simp only [HJL.out] at ho6'
        have HO6 := Lib.hid ho6'; clear ho6'
        have hJi := HJL.out
        go_wp2_with fail
        go_roundw
        case rel => exact ⟨i + 1, A6, c6, ov5, L5, by omega, by go_num, by rw [hJi], Lib.hid (by rw [HJ6.out]; exact HO6.out), HP6, HRT5, by omega⟩
        case measure => simp [intOf]; omega
      · have hj1 : judge1 M' v t = M' := by unfold judge1; rw [if_neg hv1]
        have HJ1 := Lib.hid hj1; clear hj1
        have HVD := Lib.hid (show judgeL m v ((ts.map (·.t)).take (i + 1)) = J' ++ [verd M' t] from HSN.out.1)
        generalize verd M' t = vd at HVER hv1 HVD
        go_wp2_with fail
        have HW3 := Lib.hid hw3; clear hw3
        refine (HVER.out _ HB3.out).mono ?_
        rintro e w4 ⟨rfl, hb4⟩
        have hb34 : Below wr.heap.size wr w4 := HB3.out.trans (hb4.mono HB3.out.size)
        have hp4 : PmW w w4 base q ov m.floor Li ovi := HPW.out.after hb34
        have hrt5 : Rep (judgeM m v ((ts.map (·.t)).take (i + 1))).f m.floor Li ∧ Top (judgeM m v ((ts.map (·.t)).take (i + 1))) := by
          rw [HSN.out.2, HJ1.out]
          exact ⟨by rw [← HFL.out]; exact HRT.out.1, HRT.out.2⟩
        have HP5 := Lib.hid (hp4.after ((Below.refl _ w4).alloc (Nat.le_refl _) (.cells #[.int .i64 vd] 3)))
        have HO5 := Lib.hid ((HOI.out.below hb34 (Nat.le_refl _)).alloc (.cells #[.int .i64 vd] 3))
        have HRT5 := Lib.hid hrt5
        have HRD := Lib.hid (RdI.one w4 vd)
        have hz5 : w.heap.size ≤ (w4.alloc (.cells #[.int .i64 vd] 3)).heap.size := by have := hp4.moved.size; simp; omega
        have HZ5 := Lib.hid hz5
        clear hb4 hb34 hp4 hrt5 hz5 y0 y1 y2 k0 k1 k2
        go_wp2_with (at_builtin; go_must (refine wpList_addIm rfl _ _ rfl w.heap.size (.slice A' i c') J' rfl HO5.out (w4.heap.size + 1) (.slice (some ⟨w4.heap.size, 0, none⟩) 1 1) [vd] rfl HRD.out (by rw [HJL.out]; simp only [List.length_cons, List.length_nil]; omega) HZ5.out ?_))
        intro A6 c6 w6 ho6 hg6
        have HP6 := Lib.hid (HP5.out.grow HO5.out (by decide) (by decide) hg6.out)
        have ho6' := ho6.out
        clear hg6 ho6
        simp only [HJL.out] at ho6'
        have HO6 := Lib.hid ho6'; clear ho6'
        have hJi := HJL.out
        go_wp2_with fail
        go_roundw
        case rel => exact ⟨i + 1, A6, c6, ovi, Li, by omega, by go_num, by rw [hJi], Lib.hid (by rw [HVD.out]; exact HO6.out), HP6, HRT5, by omega⟩
        case measure => simp [intOf]; omega
    · obtain rfl : i = ts.length := by omega
      have htk : (ts.map (·.t)).take ts.length = ts.map (·.t) := List.take_of_length_le (by simp)
      rw [htk, ← HO.out] at HOI
      rw [htk, ← HN.out] at HRT
      have hOl : O.length = ts.length := by rw [HO.out, judgeL_len, List.length_map]
      have hNok := Mk.Ok.judgeM (ts.map (·.t)) H5.out (v := v) (by omega) hv.2
      rw [← HN.out] at hNok
      have hfin : ∃ G', MkAt wr base q G' (n + 4) N ∧ (∀ i, G' i → PmD q ov i ∨ w.heap.size ≤ i) ∧ Mv (PmD q ov) w wr ∧ RdG encI 1 wr wr.heap.size (fun i => G' i ∨ Else w (PmD q ov) i) (.slice A' ts.length c') O := by
        refine ⟨PmD q ovi, ⟨ovi, Li, by rw [hNok.2.2]; exact HPW.out.now, rfl, by rw [hNok.2.2]; exact HRT.out.1, HRT.out.2, by omega, hNok.1, by omega⟩, fun j hj => ?_, HPW.out.moved, ?_⟩
        · rcases hj with rfl | hj
          · exact .inl (.inl rfl)
          · rcases HPW.out.new j hj.symm with h1 | h1
            · exact .inl (.inr h1.symm)
            · exact .inr h1
        · refine RdG.own encI_len HOI.out (fun b hb1 hb2 hb3 => ?_)
          rintro ((rfl | hb) | ⟨_, hb⟩)
          · omega
          · obtain ⟨A9, c9, _, ho9, hv9⟩ := HPW.out.now.blk
            exact Own.apartM HOI.out ho9 (by decide) hb3 (hv9.trans hb.symm)
          · omega
      have HFIN := Lib.hid hfin
      have HOL := Lib.hid hOl
      clear hfin hOl hNok htk
      go_wp2_with fail
      go_ret2
      exact ⟨A', c', by rw [HOL.out]; rfl, by rw [HOL.out]; exact HFIN.out⟩
end Go.Proofs.Ytcmpbhcldaogiaa
namespace Go.Proofs.Ytcmpbhcldaogiaa

theorem lists_gt : ∀ l : List UInt8, l < l ++ [0]
  | [] => by decide
  | a :: l => by
    have := lists_gt l
    exact List.Lex.cons this
theorem lists_gap : ∀ l m : List UInt8, m ≤ l ∨ l ++ [0] ≤ m
  | [], [] => .inl (by decide)
  | [], b :: m => .inr (by
      show ¬ (b :: m : List UInt8) < [0]
      intro h
      cases h with
      | rel h => exact absurd h (by simp [UInt8.lt_iff_toNat_lt])
      | cons h => cases h)
  | a :: l, [] => .inl (by show ¬ (a :: l : List UInt8) < []; intro h; cases h)
  | a :: l, b :: m => by
    rcases Nat.lt_trichotomy b.toNat a.toNat with h | h | h
    · exact .inl (Std.le_of_lt (List.Lex.rel (UInt8.lt_iff_toNat_lt.2 h)))
    · obtain rfl : b = a := UInt8.toNat_inj.1 h
      rcases lists_gap l m with h1 | h1
      · refine .inl ?_
        show ¬ (b :: l : List UInt8) < b :: m
        intro h2
        cases h2 with
        | rel h => exact absurd h (by simp)
        | cons h => exact h1 h
      · refine .inr ?_
        show ¬ (b :: m : List UInt8) < b :: (l ++ [0])
        intro h2
        cases h2 with
        | rel h => exact absurd h (by simp)
        | cons h => exact h1 h
    · exact .inr (Std.le_of_lt (List.Lex.rel (UInt8.lt_iff_toNat_lt.2 h)))
theorem next_data (k : K) : (k ++ ⟨#[0]⟩ : K).data.toList = k.data.toList ++ [0] := by simp
theorem next_gt (k : K) : k < k ++ ⟨#[0]⟩ := by
  show k.data.toList < (k ++ ⟨#[0]⟩ : K).data.toList
  rw [next_data]; exact lists_gt _
theorem next_gap (k m : K) : m ≤ k ∨ k ++ ⟨#[0]⟩ ≤ m := by
  show m.data.toList ≤ k.data.toList ∨ (k ++ ⟨#[0]⟩ : K).data.toList ≤ m.data.toList
  rw [next_data]; exact lists_gap _ _

theorem next_only (a k : K) : (a ≤ k ∧ k < a ++ ⟨#[0]⟩) ↔ k = a := by
  have h1 := next_gt a
  have h2 := next_gap a k
  constructor
  · rintro ⟨h3, h4⟩
    rcases h2 with h | h <;> grind
  · rintro rfl
    exact ⟨Std.IsPreorder.le_refl _, h1⟩
end Go.Proofs.Ytcmpbhcldaogiaa
namespace Go.Proofs.Ytcmpbhcldaogiaa
open Go.RowKit

def kA : K := ⟨#[97]⟩
def kB : K := ⟨#[98]⟩
def kC : K := ⟨#[99]⟩
def awT1 : Txn := ⟨0, [], [⟨1, kA, ⟨#[]⟩⟩]⟩
def awT2 : Txn := ⟨6, [(kA, kB)], []⟩
theorem kAB : kA < kB := by decide
theorem kAC : kA < kC := by decide
theorem aw_keys (k : K) : keysOf awT1 k ↔ k = kA := by
  unfold keysOf awT1
  simp only [List.map_cons, List.map_nil, mem_cons, mem_nil, or_false, cspan]
  rw [if_neg (by decide)]
  constructor
  · rintro ⟨h1, h2⟩
    rcases next_gap kA k with h | h
    · exact Std.IsPartialOrder.le_antisymm _ _ h h1
    · simp only at h2
      grind
  · rintro rfl
    exact ⟨Std.IsPreorder.le_refl _, next_gt _⟩
noncomputable def awM : Mk := wrote (mnew 5) 9 awT1
theorem awM_f (k : K) : awM.f k = if k = kA then 9 else 0 := by
  unfold awM wrote
  simp only
  by_cases h : k = kA
  · rw [if_pos ((aw_keys k).2 h), if_pos h]
  · rw [if_neg (fun e => h ((aw_keys k).1 e)), if_neg h]
    rfl
theorem awM_floor : awM.floor = 5 := rfl
theorem aw_hasA {t : K} (h : kA < t) : has (kA, t) kA := ⟨Std.IsPreorder.le_refl _, h⟩
theorem aw_v1 : verd (mnew 5) awT1 = 1 := by
  unfold verd
  rw [if_neg (by simp [awT1]), if_neg]
  rintro ⟨s, hs, _⟩
  simp [awT1] at hs
theorem aw_v2 : verd awM awT2 = 2 := by
  unfold verd
  rw [if_neg (by rw [awM_floor]; simp [awT2]), if_pos]
  exact ⟨(kA, kB), by simp [awT2], kA, aw_hasA kAB, by rw [awM_f, if_pos rfl, awM_floor]; omega, by rw [awM_f, if_pos rfl]; simp [awT2]⟩
theorem aw_judge : judgeL (mnew 5) 9 [awT1, awT2] = [1, 2] ∧ judgeM (mnew 5) 9 [awT1, awT2] = awM := by
  have e1 : judge1 (mnew 5) 9 awT1 = awM := by unfold judge1; rw [if_pos aw_v1]; rfl
  have e2 : judge1 awM 9 awT2 = awM := by unfold judge1; rw [if_neg (by rw [aw_v2]; omega)]
  simp only [judgeL, judgeM]
  rw [e1, e2, aw_v1, aw_v2]
  exact ⟨rfl, rfl⟩
theorem aw_sound : soundT awT1 ∧ soundT awT2 := by
  constructor
  · refine ⟨by decide, by decide, by simp [awT1], by decide, by decide⟩
  · refine ⟨by decide, by decide, ?_, by decide, by decide⟩
    intro s hs
    simp only [awT2, List.mem_cons, List.not_mem_nil, or_false] at hs
    subst hs
    exact ⟨by decide, by decide, by decide⟩
theorem aw_fit : fitT awT1 ∧ fitT awT2 := by
  constructor
  · refine ⟨by decide, by simp [awT1], by decide, fun c hc => ?_⟩
    simp only [awT1, List.mem_cons, List.not_mem_nil, or_false] at hc
    subst hc
    exact ⟨by decide, by decide⟩
  · refine ⟨by decide, fun s hs => ?_, by decide, by simp [awT2]⟩
    simp only [awT2, List.mem_cons, List.not_mem_nil, or_false] at hs
    subst hs
    exact ⟨by decide, by decide⟩
theorem aw_err : jerr (mnew 5) 9 [awT1, awT2] = 0 := by
  unfold jerr
  rw [if_neg (by simp [mnew]), if_neg]
  rintro (h | ⟨t, ht, hn⟩)
  · simp at h
  · simp only [List.mem_cons, List.not_mem_nil, or_false] at ht
    rcases ht with rfl | rfl
    · exact hn aw_sound.1
    · exact hn aw_sound.2
theorem aw_out : jout (mnew 5) 9 [awT1, awT2] = [1, 2] ∧ jnext (mnew 5) 9 [awT1, awT2] = awM := by
  unfold jout jnext
  rw [aw_err, if_pos rfl, if_pos rfl]
  exact aw_judge
theorem aw_last {n : Int} (hok : awM.Ok) (h : LastIs awM (kA, kC) n) : n = 9 := by
  refine LastIs.eq hok h (.inr ⟨by rw [awM_floor]; omega, ⟨kA, aw_hasA kAC, by rw [awM_f, if_pos rfl]⟩, fun k _ => ?_⟩)
  rw [awM_f]
  split <;> omega
theorem aw_size {n : Nat} (h : SizeIs awM.f awM.floor n) : n = 1 := by
  refine SizeIs.eq h ⟨[kA], by simp, rfl, fun k => ?_⟩
  rw [List.mem_singleton]
  unfold isStart
  rw [awM_floor]
  constructor
  · rintro rfl
    refine ⟨by rw [awM_f, if_pos rfl]; omega, fun j hj => ⟨j, Std.IsPreorder.le_refl _, hj, ?_⟩⟩
    rw [awM_f, awM_f, if_pos rfl, if_neg (by rintro rfl; grind)]
    omega
  · rintro ⟨h1, _⟩
    rw [awM_f] at h1
    by_cases e : k = kA
    · exact e
    · rw [if_neg e] at h1; omega
/-- what a call leaves of the marks' -/
theorem mv_below {base q n : Nat} {G : Nat → Prop} {m : Mk} {w w' : World} (h : MkAt w base q G n m) (hm : Mv G w w') : Below base w w' := hm.below h.low.1 fun i hi => (h.low.2 i hi).1
theorem MkAt.new {base q n : Nat} {G : Nat → Prop} {m : Mk} {w w' : World} (h : MkAt w base q G n m) (hb : Below w.heap.size w w') : MkAt w' base q G n m := h.mv (Mv.of_new hb (fun _ => False)) (fun _ _ h => h)
set_option maxRecDepth 100000 in
theorem RdG.atI {w : World} {B : Nat} {G : Nat → Prop} {v : Value} {l : List Int} (h : RdG encI 1 w B G v l) : ∃ A c, v = .slice A l.length c ∧ l.length ≤ c ∧ ∀ i (_ : i < l.length), ∃ b o, A = some ⟨b, o, none⟩ ∧ b < B ∧ ¬ G b ∧ w.cell? ⟨b, o + i, none⟩ = some (.int .i64 l[i]) := by
  obtain ⟨A, c, hv, hc, hi⟩ := h
  refine ⟨A, c, hv, hc, fun i hs => ?_⟩
  obtain ⟨b, o, hA, hB, hg, h1⟩ := hi i hs
  have := h1 0 _ rfl
  simp only [Nat.mul_one, Nat.add_zero] at this
  exact ⟨b, o, hA, hB, hg, this⟩
/-- a row of one kind of cells, whole, as a slice -/
theorem Whole.rdg {α : Type} {enc : α → List Value} {k : Nat} {w : World} {g : Nat} {t : TypeId} {B : Nat} {G : Nat → Prop} {l : List α} {c : Nat} (hk : ∀ x, (enc x).length = k) (h : Whole w g t (flatG enc l)) (hc : l.length ≤ c) (hB : g < B) (hG : ¬ G g) : RdG enc k w B G (.slice (some ⟨g, 0, none⟩) l.length c) l := by
  refine ⟨_, c, rfl, hc, fun i hi => ⟨g, 0, rfl, hB, hG, fun j u hu => ?_⟩⟩
  have hj : j < k := by
    rcases Nat.lt_or_ge j k with h' | h'
    · exact h'
    · rw [List.getElem?_eq_none (by rw [hk]; exact h')] at hu; cases hu
  refine h.cell _ _ ?_
  rw [Nat.zero_add, flatG_get hk l i hi j hj]
  exact hu
end Go.Proofs.Ytcmpbhcldaogiaa
namespace Go.Proofs.Ytcmpbhcldaogiaa
open Go.RowKit

set_option maxHeartbeats 8000000 in
set_option maxRecDepth 100000 in
theorem awake_any (w : World) : Calls Try.prog 9 #[] w fun e w' => e = .returned (.bool true) ∧ Below w.heap.size w w' := by
  have HN := Lib.hid (mknew_any 5 (by unfold I64; omega) w)
  go_enter Try.func9, Try.ntmps9
  go_wp2_with fail
  refine HN.out.mono ?_
  rintro e w1 ⟨q, G, rfl, hk, hb⟩
  obtain ⟨wx, hwx⟩ : ∃ wx, ((w1.alloc (.cells #[.int .i64 1, .string ⟨#[97]⟩, .string ⟨#[]⟩] 26)).alloc (.cells #[.string ⟨#[97]⟩, .string ⟨#[98]⟩] 24)).alloc (.cells #[.int .i64 0, .slice none 0 0, .slice (some ⟨w1.heap.size, 0, none⟩) 1 1, .int .i64 6, .slice (some ⟨w1.heap.size + 1, 0, none⟩) 1 1, .slice none 0 0] 32) = wx := ⟨_, rfl⟩
  have hb1 : Below w1.heap.size w1 (w1.alloc (.cells #[.int .i64 1, .string ⟨#[97]⟩, .string ⟨#[]⟩] 26)) := (Below.refl _ w1).alloc (Nat.le_refl _) _
  have hb2 : Below w1.heap.size w1 wx := by rw [← hwx]; exact (hb1.alloc hb1.size _).alloc (by simp; omega) _
  have hzx : wx.heap.size = w1.heap.size + 1 + 1 + 1 := by rw [← hwx]; simp
  have hB1 : Whole wx w1.heap.size 26 (flatG encC awT1.chgs) := by rw [← hwx]; exact ((Whole.fresh w1 _ [_, _, _]).alloc _).alloc _
  have hB2 : Whole wx (w1.heap.size + 1) 24 (flatG cellsS awT2.reads) := by rw [← hwx]; have := ((Whole.fresh (w1.alloc (.cells #[.int .i64 1, .string ⟨#[97]⟩, .string ⟨#[]⟩] 26)) 24 [.string ⟨#[97]⟩, .string ⟨#[98]⟩]).alloc (.cells #[.int .i64 0, .slice none 0 0, .slice (some ⟨w1.heap.size, 0, none⟩) 1 1, .int .i64 6, .slice (some ⟨w1.heap.size + 1, 0, none⟩) 1 1, .slice none 0 0] 32)); simp only [World.size_alloc] at this; exact this
  have hG : ∀ i, w1.heap.size ≤ i → ¬ G i := fun i hi hg => by have := (hk.low.2 i hg).2; omega
  have hT : RdTx wx wx.heap.size G (.slice (some ⟨w1.heap.size + 1 + 1, 0, none⟩) 2 2) [⟨awT1, .slice none 0 0, .slice (some ⟨w1.heap.size, 0, none⟩) 1 1⟩, ⟨awT2, .slice (some ⟨w1.heap.size + 1, 0, none⟩) 1 1, .slice none 0 0⟩] := by
    have hB3 : Whole wx (w1.heap.size + 1 + 1) 32 (flatG encTx [⟨awT1, .slice none 0 0, .slice (some ⟨w1.heap.size, 0, none⟩) 1 1⟩, ⟨awT2, .slice (some ⟨w1.heap.size + 1, 0, none⟩) 1 1, .slice none 0 0⟩]) := by rw [← hwx]; have := Whole.fresh ((w1.alloc (.cells #[.int .i64 1, .string ⟨#[97]⟩, .string ⟨#[]⟩] 26)).alloc (.cells #[.string ⟨#[97]⟩, .string ⟨#[98]⟩] 24)) 32 [.int .i64 0, .slice none 0 0, .slice (some ⟨w1.heap.size, 0, none⟩) 1 1, .int .i64 6, .slice (some ⟨w1.heap.size + 1, 0, none⟩) 1 1, .slice none 0 0]; simp only [World.size_alloc] at this; exact this
    refine ⟨Whole.rdg encTx_len hB3 (Nat.le_refl 2) (by omega) (hG _ (by omega)), fun x hx => ?_⟩
    simp only [List.mem_cons, List.not_mem_nil, or_false] at hx
    rcases hx with rfl | rfl
    · exact ⟨RdG.none_ _ _ _ _ _, Whole.rdg encC_len hB1 (by decide) (by omega) (hG _ (by omega))⟩
    · exact ⟨Whole.rdg cellsS_len hB2 (by decide) (by omega) (hG _ (by omega)), RdG.none_ _ _ _ _ _⟩
  have hkx : MkAt wx w.heap.size q G 0 (mnew 5) := hk.new hb2
  have hs := mkjudge_any w.heap.size q 0 G (mnew 5) 9 (by unfold I64; omega) _ _ wx hkx hT (fun x hx => by
    simp only [List.mem_cons, List.not_mem_nil, or_false] at hx
    rcases hx with rfl | rfl
    · exact aw_fit.1
    · exact aw_fit.2) (fun x hx => by
    simp only [List.mem_cons, List.not_mem_nil, or_false] at hx
    rcases hx with rfl | rfl
    · unfold I64; simp [awT1]
    · unfold I64; simp [awT2]) (by omega)
  rw [show ([⟨awT1, .slice none 0 0, .slice (some ⟨w1.heap.size, 0, none⟩) 1 1⟩, ⟨awT2, .slice (some ⟨w1.heap.size + 1, 0, none⟩) 1 1, .slice none 0 0⟩] : List TxV).map (·.t) = [awT1, awT2] from rfl, aw_out.1, aw_out.2, aw_err] at hs
  have HS := Lib.hid hs
  have HB := Lib.hid (hb.trans (hb2.mono hb.size))
  have HK := Lib.hid hkx
  have HWX := Lib.hid hwx
  clear hk hb hs HN hb1 hb2 hzx hB1 hB2 hG hT hkx hwx
  go_wp2_with fail
  rw [HWX.out]
  refine HS.out.mono ?_
  rintro e w2 ⟨A, cap, rfl, G2, hk2, hG2, hm2, hr2⟩
  have HB2 := Lib.hid (HB.out.trans (mv_below HK.out hm2))
  have HK2 := Lib.hid hk2
  have HL := Lib.hid (mklast_any w.heap.size q _ G2 awM (kA, kC) w2 hk2)
  have HR2 := Lib.hid hr2
  clear hk2 hG2 hm2 hr2 HS HB HK HWX
  go_wp2_with fail
  refine HL.out.mono ?_
  rintro e w3 ⟨n, rfl, hl3, hb3⟩
  obtain rfl := aw_last HK2.out.ok hl3
  have hk3 := HK2.out.new hb3
  have HSZ := Lib.hid (mksize_any w.heap.size q _ G2 awM w3 hk3)
  have HB3 := Lib.hid (HB2.out.trans (hb3.mono HB2.out.size))
  obtain ⟨A', c', e, hc, hi⟩ := HR2.out.atI
  injection e with e1 _ e3
  subst e1 e3
  obtain ⟨b, o, rfl, hbb, _, k0⟩ := hi 0 (by decide)
  obtain ⟨b', o', e9, _, _, k1⟩ := hi 1 (by decide)
  injection e9 with e9
  injection e9 with e10 e11
  subst e10 e11
  rw [← hb3.cell (p := ⟨b, o + 0, none⟩) hbb] at k0
  rw [← hb3.cell (p := ⟨b, o + 1, none⟩) hbb] at k1
  simp only [Nat.add_zero, List.getElem_cons_zero] at k0
  simp only [List.getElem_cons_succ, List.getElem_cons_zero] at k1
  simp only [List.length_cons, List.length_nil, Nat.zero_add, Nat.reduceAdd] at hc
  clear hi hl3 hb3 hk3 HB2 HK2 HL HR2
  go_wp2_with fail
  refine HSZ.out.mono ?_
  rintro e w5 ⟨n, rfl, hs5, hb5⟩
  obtain rfl := aw_size hs5
  have HB5 := Lib.hid (HB3.out.trans (hb5.mono HB3.out.size))
  clear hb5 HSZ hs5
  go_wp2_with fail
  go_ret
  exact ⟨rfl, HB5.out⟩
end Go.Proofs.Ytcmpbhcldaogiaa
namespace Go.Proofs.Ytcmpbhcldaogiaa
open Go.RowKit

theorem take_map {α β : Type} (f : α → β) (l : List α) (i : Nat) (h : i < l.length) : (l.map f).take (i + 1) = (l.map f).take i ++ [f l[i]] := by
  rw [List.take_add_one, List.getElem?_map, List.getElem?_eq_getElem h]
  rfl
theorem chgs_small {t : Txn} (h : fitT t) : ∀ c ∈ t.chgs, smallC c := h.2.2.2

end Go.Proofs.Ytcmpbhcldaogiaa
namespace Go.Proofs.Ytcmpbhcldaogiaa

/-- the pieces of the first i that were written -/
structure PiecesTo (L : List Wr) (floor : Int) (i : Nat) (X : List Wr) : Prop where
  ne : ∀ x ∈ X, x.s.1 < x.s.2 ∧ floor < x.v
  of : ∀ x ∈ X, ∃ j y, j < i ∧ L[j]? = some y ∧ y.v = x.v ∧ ∀ k, has x.s k → Left L j k
  all : ∀ j k y, j < i → L[j]? = some y → Left L j k → floor < y.v → ∃ x ∈ X, has x.s k
  apart : X.Pairwise fun x y => ∀ k, has x.s k → ¬ has y.s k
theorem PiecesTo.start (L : List Wr) (floor : Int) : PiecesTo L floor 0 [] := ⟨by simp, by simp, fun j _ _ h => by omega, .nil⟩
theorem left_one {L : List Wr} {j j' : Nat} {k : K} (h : Left L j k) (h' : Left L j' k) : j = j' := by
  obtain ⟨x, hx, hk, hn⟩ := h
  obtain ⟨x', hx', hk', hn'⟩ := h'
  have key : ∀ (a b : Nat) (y : Wr), a < b → L[b]? = some y → has y.s k → (∀ z ∈ L.drop (a + 1), ¬ has z.s k) → False := fun a b y hab hb hy hz => by
    refine hz y (List.mem_of_getElem? (i := b - (a + 1)) ?_) hy
    rw [List.getElem?_drop, show a + 1 + (b - (a + 1)) = b by omega]
    exact hb
  rcases Nat.lt_trichotomy j j' with hlt | hlt | hlt
  · exact (key j j' x' hlt hx' hk' hn).elim
  · exact hlt
  · exact (key j' j x hlt hx hk hn').elim
theorem PiecesTo.skip {L : List Wr} {floor : Int} {i : Nat} {X : List Wr} (h : PiecesTo L floor i X) (hi : i < L.length) (hv : L[i].v ≤ floor) : PiecesTo L floor (i + 1) X := by
  refine ⟨h.ne, fun x hx => ?_, fun j k y hj hy hl hf => ?_, h.apart⟩
  · obtain ⟨j, y, hj, r⟩ := h.of x hx
    exact ⟨j, y, by omega, r⟩
  · by_cases e : j = i
    · subst e
      rw [List.getElem?_eq_getElem hi] at hy
      injection hy with hy
      subst hy
      omega
    · exact h.all j k y (by omega) hy hl hf
theorem PiecesTo.add {L : List Wr} {floor : Int} {i : Nat} {X : List Wr} {R : List (K × K)} (h : PiecesTo L floor i X) (hi : i < L.length) (hv : floor < L[i].v) (hR : Fits R (fun k => Left L i k)) : PiecesTo L floor (i + 1) (X ++ R.map fun s => ⟨s, L[i].v⟩) := by
  refine ⟨fun x hx => ?_, fun x hx => ?_, fun j k y hj hy hl hf => ?_, ?_⟩
  · rcases List.mem_append.1 hx with hx | hx
    · exact h.ne x hx
    · obtain ⟨s, hs, rfl⟩ := List.mem_map.1 hx
      exact ⟨hR.1.ne s hs, hv⟩
  · rcases List.mem_append.1 hx with hx | hx
    · obtain ⟨j, y, hj, r⟩ := h.of x hx
      exact ⟨j, y, by omega, r⟩
    · obtain ⟨s, hs, rfl⟩ := List.mem_map.1 hx
      exact ⟨i, L[i], by omega, List.getElem?_eq_getElem hi, rfl, fun k hk => (hR.2 k).1 ⟨s, hs, hk⟩⟩
  · by_cases e : j = i
    · subst e
      obtain ⟨s, hs, hk⟩ := (hR.2 k).2 hl
      exact ⟨_, List.mem_append_right _ (List.mem_map.2 ⟨s, hs, rfl⟩), hk⟩
    · obtain ⟨x, hx, hk⟩ := h.all j k y (by omega) hy hl hf
      exact ⟨x, List.mem_append_left _ hx, hk⟩
  · refine List.pairwise_append.2 ⟨h.apart, ?_, fun x hx y hy k h1 h2 => ?_⟩
    · rw [List.pairwise_map]
      refine (normal_pair hR.1).imp ?_
      intro s t hst k h1 h2
      unfold has at h1 h2
      grind
    · obtain ⟨s, hs, rfl⟩ := List.mem_map.1 hy
      obtain ⟨j, z, hj, _, _, hl⟩ := h.of x hx
      have := left_one (hl k h1) ((hR.2 k).1 ⟨s, hs, h2⟩)
      omega
theorem PiecesTo.whole {L : List Wr} {floor : Int} {X : List Wr} (h : PiecesTo L floor L.length X) (h0 : 0 ≤ floor) : Pieces (ver L) floor X := by
  refine ⟨h.ne, fun k hk => ?_, fun x hx k hk => ?_, h.apart⟩
  · rcases ver_cases L k with ⟨e, _⟩ | ⟨j, y, hy, hl, e⟩
    · omega
    · exact h.all j k y (List.getElem?_eq_some_iff.1 hy).1 hy hl (by omega)
  · obtain ⟨j, y, hj, hy, hv, hl⟩ := h.of x hx
    rw [ver_left (hl k hk) hy, hv]

/-- how many are counted off when i of the outer loop are done, and k of the inner one -/
def gone (X : List Wr) (i k : Nat) : Nat := pairsOf (X.take i) X + (match X[i]? with | none => 0 | some x => ((X.take k).filter (touch x)).length)
theorem gone_zero (X : List Wr) : gone X 0 0 = 0 := by
  unfold gone pairsOf
  cases X[0]? <;> simp
theorem gone_step {X : List Wr} {i k : Nat} (hi : i < X.length) (hk : k < X.length) : gone X i (k + 1) = gone X i k + if touch X[i] X[k] then 1 else 0 := by
  unfold gone
  rw [List.getElem?_eq_getElem hi]
  simp only
  rw [List.take_add_one, List.getElem?_eq_getElem hk, Option.toList_some, List.filter_append, List.length_append]
  by_cases h : touch X[i] X[k] = true
  · rw [if_pos h, List.filter_cons_of_pos h]; simp; omega
  · rw [if_neg h, List.filter_cons_of_neg h]; simp
theorem gone_row {X : List Wr} {i : Nat} (hi : i < X.length) : gone X i X.length = gone X (i + 1) 0 := by
  unfold gone pairsOf
  rw [List.getElem?_eq_getElem hi]
  simp only [List.take_length, List.take_zero, List.filter_nil, List.length_nil]
  rw [List.take_add_one, List.getElem?_eq_getElem hi, Option.toList_some, List.map_append, List.sum_append]
  cases X[i + 1]? <;> simp
theorem gone_end (X : List Wr) : gone X X.length 0 = pairsOf X X := by
  unfold gone
  rw [List.take_length, List.getElem?_eq_none (Nat.le_refl _)]
  rfl
theorem gone_mono {X : List Wr} {i : Nat} (hi : i < X.length) : ∀ (k : Nat), k ≤ X.length → gone X i k ≤ gone X i X.length := by
  intro k hk
  obtain ⟨d, hd⟩ : ∃ d, X.length = k + d := ⟨X.length - k, by omega⟩
  induction d generalizing k with
  | zero => rw [hd]; exact Nat.le_refl _
  | succ d ih =>
    refine Nat.le_trans ?_ (ih (k + 1) (by omega) (by omega))
    rw [gone_step hi (by omega)]
    omega
theorem gone_le {X : List Wr} : ∀ (d i k : Nat), X.length = i + d → k ≤ X.length → gone X i k ≤ pairsOf X X
  | 0, i, k, hd, hk => by
    have : gone X i k = gone X X.length 0 := by
      have e : i = X.length := by omega
      subst e
      unfold gone
      rw [List.getElem?_eq_none (Nat.le_refl _)]
    rw [this, gone_end]
    exact Nat.le_refl _
  | d + 1, i, k, hd, hk => by
    refine Nat.le_trans (gone_mono (by omega) k hk) ?_
    rw [gone_row (by omega)]
    exact gone_le d (i + 1) 0 (by omega) (Nat.zero_le _)
end Go.Proofs.Ytcmpbhcldaogiaa
namespace Go.Proofs.Ytcmpbhcldaogiaa
open Go.RowKit
attribute [local go_sem] less_eq same_eq le_eq ge_eq gt_eq

end Go.Proofs.Ytcmpbhcldaogiaa
namespace Go.Proofs.Ytcmpbhcldaogiaa
open Go.RowKit

/-- one act, as it came in -/
structure MAct where
  what : Int
  ver : Int
  span : K × K
  v : Value
  ts : List TxV
def encMA (a : MAct) : List Value := [.int .i64 a.what, .int .i64 a.ver, .string a.span.1, .string a.span.2, a.v]
theorem encMA_len (a : MAct) : (encMA a).length = 5 := rfl
theorem RdMA.at {w : World} {B : Nat} {v : Value} {l : List MAct} (h : Rd encMA 5 w B v l) : ∃ A c, v = .slice A l.length c ∧ l.length ≤ c ∧ ∀ i (_ : i < l.length), ∃ b o, A = some ⟨b, o, none⟩ ∧ b < B ∧
    w.cell? ⟨b, o + i * 5, none⟩ = some (.int .i64 l[i].what) ∧ w.cell? ⟨b, o + i * 5 + 1, none⟩ = some (.int .i64 l[i].ver) ∧ w.cell? ⟨b, o + i * 5 + 2, none⟩ = some (.string l[i].span.1) ∧ w.cell? ⟨b, o + i * 5 + 3, none⟩ = some (.string l[i].span.2) ∧ w.cell? ⟨b, o + i * 5 + 4, none⟩ = some l[i].v := by
  obtain ⟨A, c, hv, hc, hi⟩ := h
  refine ⟨A, c, hv, hc, fun i hs => ?_⟩
  obtain ⟨b, o, hA, hB, h1⟩ := hi i hs
  exact ⟨b, o, hA, hB, h1 0 _ rfl, h1 1 _ rfl, h1 2 _ rfl, h1 3 _ rfl, h1 4 _ rfl⟩
/-- transactions that came in: none of them in a new block -/
structure TxOk (w : World) (v : Value) (ts : List TxV) : Prop where
  rd : RdTx w w.heap.size (fun _ => False) v ts
  fit : ∀ x ∈ ts, fitT x.t
  read : ∀ x ∈ ts, I64 x.t.read
theorem TxOk.next {w w' : World} {v : Value} {ts : List TxV} (h : TxOk w v ts) (hb : Below w.heap.size w w') : RdTx w' w.heap.size (fun _ => False) v ts :=
  h.rd.mv (Mv.of_below hb) (Nat.le_refl _) (fun b h1 h2 => by omega)
/-- and none of them in a block of marks that were made since -/
theorem TxOk.off {w w' : World} {v : Value} {ts : List TxV} {q n : Nat} {G : Nat → Prop} {m : Mk} (h : TxOk w v ts) (hb : Below w.heap.size w w') (hm : MkAt w' w.heap.size q G n m) : RdTx w' w'.heap.size G v ts :=
  (h.next hb).mono hb.size (fun b h1 h2 => by have := (hm.low.2 b h2).1; omega)

section
variable {w w' : World} {base q r g n n' n1 : Nat} {G G' : Nat → Prop} {ov ov' : Option Nat} {m m0 m1 : Mk}
end
theorem jout_len (m : Mk) (v : Int) (ts : List Txn) : (jout m v ts).length ≤ 4 := by
  unfold jout
  split
  · rename_i h
    rw [judgeL_len]
    exact (jerr_ok h).2.2.1
  · simp
theorem jnext_ok {m : Mk} (h : m.Ok) (v : Int) (ts : List Txn) (hv : v < 9223372036854775808) : (jnext m v ts).Ok := h.jnext ts hv
end Go.Proofs.Ytcmpbhcldaogiaa
namespace Go.Proofs.Ytcmpbhcldaogiaa
open Go.RowKit

/-- a transaction that came in -/
structure TxIn (w : World) (t : Txn) (v1 v2 : Value) : Prop where
  reads : RdP w w.heap.size v1 t.reads
  chgs : RdC w w.heap.size v2 t.chgs
  fit : fitT t
  read : I64 t.read
theorem TxIn.again {w : World} {t : Txn} {v1 v2 : Value} (h : TxIn w t v1 v2) {r : Int} (hr : I64 r) : TxIn w { t with read := r } v1 v2 := ⟨h.reads, h.chgs, h.fit, hr⟩
theorem TxIn.slices {w : World} {t : Txn} {v1 v2 : Value} (h : TxIn w t v1 v2) : ∃ A1 c1 A2 c2, v1 = .slice A1 t.reads.length c1 ∧ v2 = .slice A2 t.chgs.length c2 := by
  obtain ⟨A1, c1, e1, _, _⟩ := h.reads.at
  obtain ⟨A2, c2, e2, _, _⟩ := h.chgs.at
  exact ⟨A1, c1, A2, c2, e1, e2⟩
/-- it is found sound or not -/
theorem TxIn.sound {w w' : World} {t : Txn} {v1 v2 : Value} (h : TxIn w t v1 v2) (hb : Below w.heap.size w w') : Calls Try.prog 10 #[tval t v1 v2] w' fun e w2 => e = .returned (.bool (decide (soundT t))) ∧ Below w'.heap.size w' w2 :=
  rsoundT_any t h.fit v1 v2 w' ((h.reads.below hb (Nat.le_refl _)).mono hb.size) ((h.chgs.below hb (Nat.le_refl _)).mono hb.size)
theorem TxIn.part {w w' : World} {t : Txn} {v1 v2 : Value} {G : Nat → Prop} (h : TxIn w t v1 v2) (hb : Below w.heap.size w w') (hG : ∀ i, G i → w.heap.size ≤ i) : RdG cellsS 2 w' w'.heap.size G v1 t.reads ∧ RdG encC 3 w' w'.heap.size G v2 t.chgs :=
  ⟨(RdG.of (h.reads.below hb (Nat.le_refl _)) (fun b h1 h2 => by have := hG b h2; omega)).mono hb.size (fun _ _ h => h), (RdG.of (h.chgs.below hb (Nat.le_refl _)) (fun b h1 h2 => by have := hG b h2; omega)).mono hb.size (fun _ _ h => h)⟩
/-- one transaction in a new block -/
theorem RdTx.one {w' : World} {g : Nat} {G : Nat → Prop} {x : TxV} (hW : Whole w' g 32 [.int .i64 x.t.read, x.v1, x.v2]) (hp : RdG cellsS 2 w' w'.heap.size G x.v1 x.t.reads ∧ RdG encC 3 w' w'.heap.size G x.v2 x.t.chgs) (hG : ¬ G g) : RdTx w' w'.heap.size G (.slice (some ⟨g, 0, none⟩) 1 1) [x] :=
  ⟨Whole.rdg encTx_len (l := [x]) hW (Nat.le_refl 1) hW.size hG, fun y hy => by rw [List.mem_singleton] at hy; subst hy; exact hp⟩
theorem RdTx.two {w' : World} {g : Nat} {G : Nat → Prop} {x y : TxV} (hW : Whole w' g 32 [.int .i64 x.t.read, x.v1, x.v2, .int .i64 y.t.read, y.v1, y.v2]) (hp : RdG cellsS 2 w' w'.heap.size G x.v1 x.t.reads ∧ RdG encC 3 w' w'.heap.size G x.v2 x.t.chgs) (hp2 : RdG cellsS 2 w' w'.heap.size G y.v1 y.t.reads ∧ RdG encC 3 w' w'.heap.size G y.v2 y.t.chgs) (hG : ¬ G g) : RdTx w' w'.heap.size G (.slice (some ⟨g, 0, none⟩) 2 2) [x, y] :=
  ⟨Whole.rdg encTx_len (l := [x, y]) hW (Nat.le_refl 2) hW.size hG, fun z hz => by
    simp only [List.mem_cons, List.not_mem_nil, or_false] at hz
    rcases hz with rfl | rfl
    · exact hp
    · exact hp2⟩
theorem RdG.take {α : Type} {enc : α → List Value} {k : Nat} {w : World} {B : Nat} {G : Nat → Prop} {A : Option Addr} {c m : Nat} {l : List α} (h : RdG enc k w B G (.slice A m c) l) (n : Nat) (hn : n ≤ l.length) : RdG enc k w B G (.slice A n c) (l.take n) := by
  obtain ⟨A', c', hv, hc, hi⟩ := h
  injection hv with h1 h2 h3
  subst h1 h3
  refine ⟨A, c, by simp [Nat.min_eq_left hn], by simp; omega, fun i hs => ?_⟩
  have hs' : i < l.length := by simp at hs; omega
  obtain ⟨b, o, hA, hB, hg, h1⟩ := hi i hs'
  exact ⟨b, o, hA, hB, hg, fun j u hu => h1 j u (by simpa using hu)⟩
theorem TxOk.take {w : World} {A : Option Addr} {c m : Nat} {ts : List TxV} (h : TxOk w (.slice A m c) ts) (n : Nat) (hn : n ≤ ts.length) : TxOk w (.slice A n c) (ts.take n) :=
  ⟨⟨h.rd.row.take n hn, fun x hx => h.rd.parts x (List.mem_of_mem_take hx)⟩, fun x hx => h.fit x (List.mem_of_mem_take hx), fun x hx => h.read x (List.mem_of_mem_take hx)⟩

/-! ### pure -/
theorem jnext_low {m : Mk} (h : m.Ok) {v : Int} {ts : List Txn} (he : jerr m v ts = 0) (hv : v < 9223372036854775808) : (jnext m v ts).Ok ∧ (jnext m v ts).most ≤ v ∧ (jnext m v ts).floor = m.floor := by
  have := jerr_ok he
  unfold jnext
  rw [if_pos he]
  exact Mk.Ok.judgeM ts h (by omega) hv
theorem jerr_one {m : Mk} {v : Int} {t : Txn} (h1 : m.floor < v) (h2 : m.most < v) (hs : soundT t) : jerr m v [t] = 0 := by
  unfold jerr
  rw [if_neg (by omega), if_neg]
  rintro (h | ⟨u, hu, hn⟩)
  · simp at h
  · rw [List.mem_singleton] at hu; subst hu; exact hn hs
theorem jone {m : Mk} {v : Int} {t : Txn} (he : jerr m v [t] = 0) : jout m v [t] = [verd m t] ∧ jnext m v [t] = judge1 m v t := by
  unfold jout jnext
  rw [if_pos he, if_pos he]
  exact ⟨rfl, rfl⟩
theorem verd_fine {m : Mk} {t : Txn} (h1 : t.reads = [] ∨ m.floor ≤ t.read) (h2 : ∀ k, m.f k ≤ m.floor ∨ m.f k ≤ t.read) : verd m t = 1 := by
  unfold verd
  rw [if_neg (by rintro ⟨h3, h4⟩; rcases h1 with h1 | h1; exact h3 h1; omega), if_neg]
  rintro ⟨s, _, k, _, h3, h4⟩
  rcases h2 k with h5 | h5 <;> omega
theorem verd_blind {m : Mk} {t : Txn} (h : t.reads = []) : verd m t = 1 := by
  unfold verd
  rw [if_neg (fun h3 => h3.1 h), if_neg]
  rintro ⟨s, hs, _⟩
  rw [h] at hs
  simp at hs
end Go.Proofs.Ytcmpbhcldaogiaa
namespace Go.Proofs.Ytcmpbhcldaogiaa
open Go.ChangeShapes Go.WideShapes Go.ChangeAt Go.RowKit Go.Joins Go.Deep

def PairD {H : Type} (s : K × K) (d : DataW H) : Prop := d = .agg [.lit (.string s.1.data.toList), .lit (.string s.2.data.toList)]
def ChgD {H : Type} (c : Chg) (d : DataW H) : Prop := ∃ y, d = .agg [y, .lit (.string c.key.data.toList), .lit (.string c.val.data.toList)]

section
variable {H : Type} {enc : TypeId × Value → H} {w : World} {base : Nat} {spare : Nat → Bool} {held : Bool}
set_option maxRecDepth 100000 in
theorem span_of_cells {fuel : Nat} {cs : List Value} {x : DataW H × List MemPlace} (h : DataW.trod enc Try.prog w base spare held fuel 24 cs = some x) : ∃ s : K × K, cs = cellsS s ∧ PairD s x.1 := by
  obtain ⟨y0, y1, n, hx, hlen, h0, h1⟩ := trod_struct2 Try.underlying24 h
  rw [show Try.prog.cellsOf 24 = 2 by kernel_rfl] at hlen
  match cs, hlen with
  | [u, v], _ =>
    have c9 : Try.prog.cellsOf 9 = 1 := by kernel_rfl
    simp [c9] at h0 h1
    obtain ⟨a, ea, xa, ha⟩ := DataW.trod_string Try.underlying9 h0
    obtain ⟨b, eb, xb, hb⟩ := DataW.trod_string Try.underlying9 h1
    simp at ea eb
    exact ⟨(a, b), by rw [ea, eb]; rfl, by rw [hx, xa, xb]; rfl⟩
set_option maxRecDepth 100000 in
theorem chg_of_cells {fuel : Nat} {cs : List Value} {x : DataW H × List MemPlace} (h : DataW.trod enc Try.prog w base spare held fuel 26 cs = some x) : ∃ s : Chg, cs = encC s ∧ ChgD s x.1 := by
  obtain ⟨y0, y1, y2, n, hx, hlen, h0, h1, h2⟩ := trod_struct3 Try.underlying26 h
  rw [show Try.prog.cellsOf 26 = 3 by kernel_rfl] at hlen
  match cs, hlen with
  | [u, v, t], _ =>
    have c9 : Try.prog.cellsOf 9 = 1 := by kernel_rfl
    have c3 : Try.prog.cellsOf 3 = 1 := by kernel_rfl
    simp [c9, c3] at h0 h1 h2
    obtain ⟨m, em, _, _⟩ := DataW.trod_int Try.underlying3 h0
    obtain ⟨a, ea, xa, ha⟩ := DataW.trod_string Try.underlying9 h1
    obtain ⟨b, eb, xb, hb⟩ := DataW.trod_string Try.underlying9 h2
    simp at em ea eb
    exact ⟨⟨m, a, b⟩, by rw [em, ea, eb]; rfl, y0.1, by rw [hx, xa, xb]⟩
end
set_option maxRecDepth 100000 in
theorem SizedL.lenC {H : Type} {d : DataW H} {l : List Chg} (hs : SizedL ChgD d l) (hw : ∀ n ∈ d.weights Try.prog 30, n ≤ reachBytes) : l.length < 4611686018427387904 ∧ ∀ c ∈ l, smallC c := by
  rcases hs with ⟨_, rfl⟩ | ⟨el, sp, rfl, he, hall⟩
  · simp
  · have h1 := slice_len Try.underlying30 hw
    rw [show Try.prog.bytesOf 26 = 40 by kernel_rfl] at h1
    refine ⟨by omega, fun s hs => ?_⟩
    obtain ⟨i, hi, rfl⟩ := List.getElem_of_mem hs
    obtain ⟨d', h2, y, rfl⟩ := hall i hi
    have hm : ∀ n, n ∈ (DataW.agg [y, .lit (.string l[i].key.data.toList), .lit (.string l[i].val.data.toList)]).weights Try.prog 26 → n ≤ reachBytes := fun n hn => hw n (weights_el Try.underlying30 h2 hn)
    have a := hm l[i].key.data.toList.length (by simp [DataW.weights, DataW.weightsEach, Try.underlying26])
    have b := hm l[i].val.data.toList.length (by simp [DataW.weights, DataW.weightsEach, Try.underlying26])
    rw [show reachBytes = 140737488351232 from rfl] at a b
    have e : ∀ k : K, k.data.toList.length = k.size := fun k => by simp
    rw [e] at a b
    exact ⟨by omega, by omega⟩
set_option maxRecDepth 100000 in
theorem SizedL.lenS {H : Type} {d : DataW H} {l : List (K × K)} (hs : SizedL PairD d l) (hw : ∀ n ∈ d.weights Try.prog 29, n ≤ reachBytes) : l.length < 4611686018427387904 ∧ ∀ s ∈ l, s.1.size < 4611686018427387904 ∧ s.2.size < 4611686018427387904 := by
  rcases hs with ⟨_, rfl⟩ | ⟨el, sp, rfl, he, hall⟩
  · simp
  · have h1 := slice_len Try.underlying29 hw
    rw [show Try.prog.bytesOf 24 = 32 by kernel_rfl] at h1
    refine ⟨by omega, fun s hs => ?_⟩
    obtain ⟨i, hi, rfl⟩ := List.getElem_of_mem hs
    obtain ⟨d', h2, h3⟩ := hall i hi
    unfold PairD at h3
    subst h3
    have hm : ∀ n, n ∈ (DataW.agg [.lit (.string l[i].1.data.toList), .lit (.string l[i].2.data.toList)]).weights Try.prog 24 → n ≤ reachBytes := fun n hn => hw n (weights_el Try.underlying29 h2 hn)
    have a := hm l[i].1.data.toList.length (by simp [DataW.weights, DataW.weightsEach, Try.underlying24])
    have b := hm l[i].2.data.toList.length (by simp [DataW.weights, DataW.weightsEach, Try.underlying24])
    rw [show reachBytes = 140737488351232 from rfl] at a b
    have e : ∀ k : K, k.data.toList.length = k.size := fun k => by simp
    rw [e] at a b
    exact ⟨by omega, by omega⟩
/-- what is known of a transaction's data -/
def TxD {H : Type} (W : World) (x : TxV) (d : DataW H) : Prop := RdP W W.heap.size x.v1 x.t.reads ∧ RdC W W.heap.size x.v2 x.t.chgs ∧ I64 x.t.read ∧ ∃ y0 y1 y2, d = .agg [y0, y1, y2] ∧ SizedL PairD y1 x.t.reads ∧ SizedL ChgD y2 x.t.chgs
section
variable {H : Type} {enc : TypeId × Value → H} {W : World}
set_option maxRecDepth 100000 in
theorem spans_of_slice {v : Value} {d : DataW H} {p : List MemPlace} (hv : ∃ a len cap, v = .slice a len cap) (h : DataW.Trod enc Try.prog W 0 (fun _ => true) true 29 v d p) : ∃ l, RdP W W.heap.size v l ∧ SizedL PairD d l :=
  haveI : Inhabited (K × K) := ⟨(⟨#[]⟩, ⟨#[]⟩)⟩
  open_rowsF (by decide) cellsS_len Try.underlying29 (by kernel_rfl) _ (fun _ _ _ h => span_of_cells h) hv h
set_option maxRecDepth 100000 in
theorem chgs_of_slice {v : Value} {d : DataW H} {p : List MemPlace} (hv : ∃ a len cap, v = .slice a len cap) (h : DataW.Trod enc Try.prog W 0 (fun _ => true) true 30 v d p) : ∃ l, RdC W W.heap.size v l ∧ SizedL ChgD d l :=
  haveI : Inhabited Chg := ⟨⟨0, ⟨#[]⟩, ⟨#[]⟩⟩⟩
  open_rowsF (by decide) encC_len Try.underlying30 (by kernel_rfl) _ (fun _ _ _ h => chg_of_cells h) hv h
set_option maxRecDepth 100000 in
theorem tx_of_cells {fuel : Nat} {cs : List Value} {x : DataW H × List MemPlace} (h : DataW.trod enc Try.prog W 0 (fun _ => true) true fuel 32 cs = some x) : ∃ a : TxV, cs = encTx a ∧ TxD W a x.1 := by
  obtain ⟨y0, y1, y2, n, hx, hlen, h0, h1, h2⟩ := trod_struct3 Try.underlying32 h
  rw [show Try.prog.cellsOf 32 = 3 by kernel_rfl] at hlen
  match cs, hlen with
  | [u, v, t], _ =>
    have c3 : Try.prog.cellsOf 3 = 1 := by kernel_rfl
    have cs1 : Try.prog.cellsOf 29 = 1 := by kernel_rfl
    have cc1 : Try.prog.cellsOf 30 = 1 := by kernel_rfl
    simp [c3, cs1, cc1] at h0 h1 h2
    obtain ⟨i0, e0, _, w0⟩ := DataW.trod_int Try.underlying3 h0
    simp at e0
    obtain ⟨hs1, ht1⟩ := slice_of Try.underlying29 h1
    obtain ⟨hs2, ht2⟩ := slice_of Try.underlying30 h2
    obtain ⟨l1, hr1, hz1⟩ := spans_of_slice hs1 ht1
    obtain ⟨l2, hr2, hz2⟩ := chgs_of_slice hs2 ht2
    exact ⟨⟨⟨i0, l1, l2⟩, v, t⟩, by rw [e0]; rfl, hr1, hr2, int_of_wf w0, y0.1, y1.1, y2.1, by rw [hx], hz1, hz2⟩
set_option maxRecDepth 100000 in
theorem TxD.fit {x : TxV} {d : DataW H} (h : TxD W x d) (hw : ∀ n ∈ d.weights Try.prog 32, n ≤ reachBytes) : fitT x.t := by
  obtain ⟨_, _, _, y0, y1, y2, rfl, hz1, hz2⟩ := h
  have q1 := hz1.lenS (fun n hn => hw n (by simp only [DataW.weights, Try.underlying32, List.map_cons, List.map_nil, DataW.weightsEach, List.mem_append]; simp only [hn, true_or, or_true]))
  have q2 := hz2.lenC (fun n hn => hw n (by simp only [DataW.weights, Try.underlying32, List.map_cons, List.map_nil, DataW.weightsEach, List.mem_append]; simp only [hn, true_or, or_true]))
  exact ⟨q1.1, q1.2, q2.1, q2.2⟩
set_option maxRecDepth 100000 in
theorem txs_of_slice {v : Value} {d : DataW H} {p : List MemPlace} (hv : ∃ a len cap, v = .slice a len cap) (h : DataW.Trod enc Try.prog W 0 (fun _ => true) true 40 v d p) : ∃ l, Rd encTx 3 W W.heap.size v l ∧ SizedL (TxD W) d l :=
  haveI : Inhabited TxV := ⟨⟨zeroT, .bool false, .bool false⟩⟩
  open_rowsF (e2 := encTx) (k := 3) (by decide) encTx_len Try.underlying40 (by kernel_rfl) (TxD W) (fun _ _ _ h => tx_of_cells h) hv h
set_option maxRecDepth 100000 in
theorem tx_ok {v : Value} {d : DataW H} {l : List TxV} (hr : Rd encTx 3 W W.heap.size v l) (hz : SizedL (TxD W) d l) (hw : ∀ n ∈ d.weights Try.prog 40, n ≤ reachBytes) : TxOk W v l := by
  have hall : ∀ x ∈ l, RdP W W.heap.size x.v1 x.t.reads ∧ RdC W W.heap.size x.v2 x.t.chgs ∧ I64 x.t.read ∧ fitT x.t := by
    rcases hz with ⟨_, rfl⟩ | ⟨el, sp, rfl, he, hall⟩
    · simp
    · intro s hs
      obtain ⟨i, hi, rfl⟩ := List.getElem_of_mem hs
      obtain ⟨d', h1, h2⟩ := hall i hi
      exact ⟨h2.1, h2.2.1, h2.2.2.1, h2.fit fun n hn => hw n (weights_el Try.underlying40 h1 hn)⟩
  exact ⟨⟨RdG.of hr (fun _ _ h => h), fun x hx => ⟨RdG.of (hall x hx).1 (fun _ _ h => h), RdG.of (hall x hx).2.1 (fun _ _ h => h)⟩⟩, fun x hx => (hall x hx).2.2.2, fun x hx => (hall x hx).2.2.1⟩
def MActD {H : Type} (W : World) (a : MAct) (d : DataW H) : Prop := Rd encTx 3 W W.heap.size a.v a.ts ∧ I64 a.ver ∧ ∃ y0 y1 y2 y3, d = .agg [y0, y1, y2, y3] ∧ SizedL (TxD W) y3 a.ts
end
section
variable {H : Type} {enc : TypeId × Value → H} {W : World} {base : Nat} {v : Value} {d : DataW H} {p : List MemPlace}
set_option maxRecDepth 100000 in
theorem open_txs (hv : Value.okWide Try.prog W .any base 40 v) (h : DataW.Trod enc Try.prog W 0 (fun _ => true) true 40 v d p) (hw : ∀ n ∈ d.weights Try.prog 40, n ≤ reachBytes) : ∃ l, TxOk W v l := by
  obtain ⟨l, hr, hz⟩ := txs_of_slice (by obtain ⟨a, len, cap, rfl⟩ := okWide_slice Try.underlying40 hv; exact ⟨a, len, cap, rfl⟩) h
  exact ⟨l, tx_ok hr hz hw⟩
set_option maxRecDepth 100000 in
theorem open_slice_any (hv : Value.okWide Try.prog W .any base 40 v) : ∃ a len cap, v = .slice a len cap := by
  obtain ⟨a, len, cap, rfl⟩ := okWide_slice Try.underlying40 hv
  exact ⟨a, len, cap, rfl⟩
set_option maxRecDepth 100000 in
theorem open_mchgs (hv : Value.okWide Try.prog W .any base 30 v) (h : DataW.Trod enc Try.prog W 0 (fun _ => true) true 30 v d p) (hw : ∀ n ∈ d.weights Try.prog 30, n ≤ reachBytes) : ∃ l, TxIn W ⟨0, [], l⟩ (.slice none 0 0) v := by
  obtain ⟨l, hr, hz⟩ := chgs_of_slice (by obtain ⟨a, len, cap, rfl⟩ := okWide_slice Try.underlying30 hv; exact ⟨a, len, cap, rfl⟩) h
  have q := hz.lenC hw
  exact ⟨l, ⟨none, 0, rfl, Nat.zero_le _, fun i hi => by simp at hi⟩, hr, ⟨by simp, by simp, q.1, q.2⟩, by show I64 0; unfold I64; omega⟩
set_option maxRecDepth 100000 in
theorem open_mtxn (hv : Value.okWide Try.prog W .any base 32 v) (h : DataW.Trod enc Try.prog W 0 (fun _ => true) true 32 v d p) (hw : ∀ n ∈ d.weights Try.prog 32, n ≤ reachBytes) :
    ∃ (t : Txn) (x1 x2 : Value), v = tval t x1 x2 ∧ TxIn W t x1 x2 := by
  obtain ⟨v0, v1, v2, y0, y1, y2, n, rfl, rfl, _, h0, h1, h2⟩ := open_agg3 Try.underlying32 (by kernel_rfl) (by kernel_rfl) hv h
  obtain ⟨i0, e0, _, g0⟩ := DataW.trod_int Try.underlying3 h0
  simp at e0
  obtain ⟨hs1, ht1⟩ := slice_of Try.underlying29 h1
  obtain ⟨hs2, ht2⟩ := slice_of Try.underlying30 h2
  obtain ⟨l1, hr1, hz1⟩ := spans_of_slice hs1 ht1
  obtain ⟨l2, hr2, hz2⟩ := chgs_of_slice hs2 ht2
  have q1 := hz1.lenS (fun n hn => hw n (by simp only [DataW.weights, Try.underlying32, List.map_cons, List.map_nil, DataW.weightsEach, List.mem_append]; simp only [hn, true_or, or_true]))
  have q2 := hz2.lenC (fun n hn => hw n (by simp only [DataW.weights, Try.underlying32, List.map_cons, List.map_nil, DataW.weightsEach, List.mem_append]; simp only [hn, true_or, or_true]))
  exact ⟨⟨i0, l1, l2⟩, v1, v2, by rw [e0]; rfl, hr1, hr2, ⟨q1.1, q1.2, q2.1, q2.2⟩, int_of_wf g0⟩
set_option maxRecDepth 100000 in
theorem open_chg (hv : Value.okWide Try.prog W .any base 26 v) (h : DataW.Trod enc Try.prog W 0 (fun _ => true) true 26 v d p) (hw : ∀ n ∈ d.weights Try.prog 26, n ≤ reachBytes) :
    ∃ c : Chg, v = cval c ∧ smallC c := by
  obtain ⟨a0, b0, c0, y0, z0, x0, m0, rfl, rfl, rfl, hy, hz, hx⟩ := open_agg3 Try.underlying26 (by kernel_rfl) (by kernel_rfl) hv h
  obtain ⟨k, ek, xk, _⟩ := DataW.trod_int Try.underlying3 hy
  obtain ⟨a, ea, xa, _⟩ := DataW.trod_string Try.underlying9 hz
  obtain ⟨b, eb, xb, _⟩ := DataW.trod_string Try.underlying9 hx
  simp at ek ea eb
  subst ek ea eb
  rw [xk, xa, xb] at hw
  have h1 := hw a.data.toList.length (by simp [DataW.weights, DataW.weightsEach, Try.underlying26])
  have h2 := hw b.data.toList.length (by simp [DataW.weights, DataW.weightsEach, Try.underlying26])
  rw [show reachBytes = 140737488351232 from rfl] at h1 h2
  have e : ∀ k : K, k.data.toList.length = k.size := fun k => by simp
  rw [e] at h1 h2
  exact ⟨⟨k, a, b⟩, rfl, by simp only; omega, by simp only; omega⟩
set_option maxRecDepth 100000 in
theorem open_span (hv : Value.okWide Try.prog W .any base 24 v) (h : DataW.Trod enc Try.prog W 0 (fun _ => true) true 24 v d p) (hw : ∀ n ∈ d.weights Try.prog 24, n ≤ reachBytes) :
    ∃ s : K × K, v = .agg #[.string s.1, .string s.2] ∧ s.1.size < 4611686018427387904 ∧ s.2.size < 4611686018427387904 := by
  obtain ⟨a0, b0, y0, z0, m0, rfl, rfl, rfl, hy, hz⟩ := open_agg2 Try.underlying24 (by kernel_rfl) (by kernel_rfl) hv h
  obtain ⟨a, ea, xa, _⟩ := DataW.trod_string Try.underlying9 hy
  obtain ⟨b, eb, xb, _⟩ := DataW.trod_string Try.underlying9 hz
  simp at ea eb
  subst ea eb
  rw [xa, xb] at hw
  have h1 := hw a.data.toList.length (by simp [DataW.weights, DataW.weightsEach, Try.underlying24])
  have h2 := hw b.data.toList.length (by simp [DataW.weights, DataW.weightsEach, Try.underlying24])
  rw [show reachBytes = 140737488351232 from rfl] at h1 h2
  have e : ∀ k : K, k.data.toList.length = k.size := fun k => by simp
  rw [e] at h1 h2
  exact ⟨(a, b), rfl, by simp only; omega, by simp only; omega⟩
end
end Go.Proofs.Ytcmpbhcldaogiaa
