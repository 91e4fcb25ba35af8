/- ChestChain's walk. -/
import Derived.Test.YtmigninibdecmaaGreatFat
import Derived.Test.YtmigninibdecmaaGreatFad
import Derived.Deep.CutBlock
import Derived.Deep.DeepCutAuto
import Derived.Deep.Cut
import Derived.Deep.CutRange
namespace Go.Proofs.YtmigninibdecmaaGreat
open Go.RowKit
attribute [local go_sem] less_eq same_eq le_eq ge_eq gt_eq

theorem RdB.of_whole {w : World} {g : Nat} {s : UInt8} {B : Nat} (h : Whole w g 5 [.int .u8 (s.toNat : Int)]) (hB : g < B) : RdB w B (.slice (some ⟨g, 0, none⟩) 1 1) [s] := by
  refine ⟨some ⟨g, 0, none⟩, 1, rfl, Nat.le_refl _, fun i hi => ⟨g, 0, rfl, hB, fun j u hu => ?_⟩⟩
  obtain rfl : i = 0 := by simpa using hi
  simp only [List.getElem_cons_zero] at hu
  simp only [Nat.zero_mul, Nat.zero_add]
  exact h.cell j _ hu
/-- a chain of steps, from 7 up to at -/
structure Steps (i : Nat) (at' : Int) (l : List BtV) : Prop where
  chain : chainB 7 (l.map (·.t))
  top : topB 7 (l.map (·.t)) = at'
  len : l.length = i
  high : at' ≤ 7 + 256 * i
  tiny : ∀ x ∈ l, x.t.Tiny
  one : ∀ x ∈ l, x.t.chgs.length ≤ 1000
def chG (l : List BtV) : Lg := ⟨1, 7, 7, knownB 0 (l.map (·.t)), [], l.map (·.t)⟩
theorem chG_top {i : Nat} {at' : Int} {l : List BtV} (h : Steps i at' l) : (chG l).top = at' := h.top
theorem Steps.ge {i : Nat} {at' : Int} {l : List BtV} (h : Steps i at' l) : 7 ≤ at' := by
  have := chainB_top h.chain
  rw [h.top] at this
  exact this
def stB (at' : Int) (s : UInt8) : Bat := ⟨at', at' + (s.toNat : Int) + 1, at', [stC s]⟩
theorem Steps.add {i : Nat} {at' : Int} {l : List BtV} (h : Steps i at' l) (s : UInt8) (hi : i < 100) (A : Option Addr) (c : Nat) : Steps (i + 1) (at' + (s.toNat : Int) + 1) (l ++ [⟨stB at' s, A, c⟩]) := by
  have hge := h.ge
  have h1 := h.high
  have hs := s.toNat_lt
  refine ⟨?_, ?_, by simp [h.len], by omega, ?_, ?_⟩
  · rw [List.map_append]
    exact chainB_add h.chain (by rw [h.top]; rfl) (by rw [h.top]; show at' < at' + (s.toNat : Int) + 1; omega)
  · rw [List.map_append]
    exact topB_add _ _ _
  · intro x hx
    rcases List.mem_append.1 hx with hx | hx
    · exact h.tiny x hx
    · rw [List.mem_singleton.1 hx]
      exact tiny_one _ _ _ _ (by omega) (by omega) (by omega)
  · intro x hx
    rcases List.mem_append.1 hx with hx | hx
    · exact h.one x hx
    · rw [List.mem_singleton.1 hx]
      simp [stB]
theorem chG_add {at' : Int} {l : List BtV} (s : UInt8) (A : Option Addr) (c : Nat) : (chG l).add (stB at' s) = chG (l ++ [⟨stB at' s, A, c⟩]) := by
  unfold Lg.add chG
  simp only [List.map_append, List.map_cons, List.map_nil, knownB_add]

theorem topB_lastC (a : Int) (l : List Bat) (n : Nat) (h : l.length = n + 1) : topB a l = (l[n]'(by omega)).version := by
  have e : l.getLast? = some (l[n]'(by omega)) := by
    rw [List.getLast?_eq_getElem?, show l.length - 1 = n by omega, List.getElem?_eq_getElem]
  unfold topB
  rw [e]
theorem topB_take_le {a : Int} {l : List Bat} (h : chainB a l) (j : Nat) : a ≤ topB a (l.take j) ∧ topB a (l.take j) ≤ topB a l := by
  rw [← List.take_append_drop j l] at h
  obtain ⟨h1, h2⟩ := chainB_app.1 h
  refine ⟨chainB_top h1, ?_⟩
  have h3 := chainB_top h2
  have e : topB (topB a (l.take j)) (l.drop j) = topB a l := by
    have h4 : ∀ (a : Int) (x y : List Bat), topB (topB a x) y = topB a (x ++ y) := fun a x y => by
      unfold topB
      rw [List.getLast?_append]
      cases y.getLast? <;> simp
    rw [h4, List.take_append_drop]
  rw [e] at h3
  exact h3

set_option maxHeartbeats 16000000 in
set_option maxRecDepth 100000 in
theorem chestChain_walk (l : List UInt8) (most pop : Nat) (_hmo : most < 256) (hpo : pop < 256) (v : Value) (w : World) (hv : RdB w w.heap.size v l) (hl : l.length < 4611686018427387904) :
    Calls Tryz.prog 4 #[v, .int .u8 (most : Int), .int .u8 (pop : Int)] w fun e w' => e = .returned (.bool true) ∧ Below w.heap.size w w' := by
  obtain ⟨A, c0, rfl, hc0, hk⟩ := hv.at
  have HK := Lib.hid hk
  have HLL := Lib.hid hl
  have HN := Lib.hid (new_any 524288 (by decide) (by decide) w)
  clear hk hv hl
  go_enter Tryz.func4, Tryz.ntmps4
  go_wp2_with fail
  refine HN.out.mono ?_
  rintro e w1 ⟨p, rfl, ht, hb⟩
  have HO := Lib.hid (hopen_any 524288 (by decide) (by decide) w w1 p ht hb)
  clear HN ht hb
  go_wp2_with fail
  refine HO.out.mono ?_
  rintro e w2 ⟨q, G, rfl, hc2, hb2⟩
  have HC2 := Lib.hid hc2
  have HB2 := Lib.hid hb2
  clear hc2 hb2 HO
  go_wp2_with fail
  refine (awake_any w2).mono ?_
  rintro e w3 ⟨rfl, hb3⟩
  have hc3 := HC2.out.mv (Mv.of_new hb3 (fun _ => False)) (fun _ _ h => h)
  have hb3' := HB2.out.trans (hb3.mono HB2.out.size)
  have hl1 := hlay_any w.heap.size q G (Ch.new 524288) 1 7 [] (.slice none 0 0) w3 (by decide) (by decide) (by simp) trivial (by simp) (by decide) (Ch.end_new _ _) hc3 (RdBts.none' w3)
  rw [List.map_nil, show (Ch.new 524288).lay 1 7 [] = (0, ⟨[chG []], 0, 1, 524288⟩) from Ch.lay_first 524288 1 7 [] (by decide)] at hl1
  simp only at hl1
  have HL1 := Lib.hid hl1
  have HC3 := Lib.hid hc3
  have HB3 := Lib.hid hb3'
  clear hl1 hc3 hb3 hb3' HC2 HB2
  go_wp2_with fail
  refine HL1.out.mono ?_
  rintro e w4 ⟨G4, rfl, hc4, hG4, hm4⟩
  have hb4 := HB3.out.trans (hm4.below HC3.out.low.1 (fun i hi => (HC3.out.low.2 i hi).1))
  obtain ⟨w5, hw5⟩ : ∃ w5, w5 = w4.alloc (.cells #[] 38) := ⟨_, rfl⟩
  have hb5 : Below w4.heap.size w4 w5 := by rw [hw5]; exact (Below.refl _ w4).alloc (Nat.le_refl _) _
  have hr5 : RowP w5 w4.heap.size G4 (.slice (some ⟨w4.heap.size, 0, none⟩) 0 0) [] := ⟨by rw [hw5]; exact Own.empty _ _ (Nat.le_refl _), fun g hg hG => by
    have h1 := (hc4.low.2 g hG).2
    have h2 : w4.heap.size = g := by simpa [Value.ownBlock] using hg
    omega, fun x hx => by cases hx⟩
  have HR5 := Lib.hid hr5
  have HC5 := Lib.hid (hc4.mv (Mv.of_new hb5 (fun _ => False)) (fun _ _ h => h))
  have HB5 := Lib.hid (hb4.trans (hb5.mono hb4.size))
  have HS5 := Lib.hid (show w4.heap.size ≤ w5.heap.size from hb5.size)
  have hs4 : w.heap.size ≤ w4.heap.size := hb4.size
  clear hr5 hc4 hG4 hm4 hb4 hb5 HL1 HC3 HB3
  go_upto_block 0 with fail
  rw [← hw5]
  clear hw5
  go_cut [11, 12] (fun av fv wx => ∃ (i : Nat) (at' : Int) (F : Option Addr) (cf : Nat) (bs : List BtV) (G : Nat → Prop), i ≤ 24 ∧ av = .int .i64 at' ∧ fv = .slice F bs.length cf ∧ RowP wx w4.heap.size G (.slice F bs.length cf) bs ∧ Steps i at' bs ∧ ChAt wx w.heap.size q G ⟨[chG bs], 0, 1 + 2 * i, 524288⟩ ∧ w4.heap.size ≤ wx.heap.size ∧ Below w.heap.size w wx)
  case first =>
    go_wp2_with fail
    go_loopw [11, 12, 13] (fun av fv iv wr => ∃ (i : Nat) (at' : Int) (F : Option Addr) (cf : Nat) (bs : List BtV) (G : Nat → Prop), i ≤ 24 ∧ iv = .int .i64 (i : Int) ∧ av = .int .i64 at' ∧ fv = .slice F bs.length cf ∧ RowP wr w4.heap.size G (.slice F bs.length cf) bs ∧ Steps i at' bs ∧ ChAt wr w.heap.size q G ⟨[chG bs], 0, 1 + 2 * i, 524288⟩ ∧ w4.heap.size ≤ wr.heap.size ∧ Below w.heap.size w wr) (fun _ _ iv _ => 24 - (intOf iv).toNat)
    case atStart => exact ⟨0, 7, _, 0, [], G4, by omega, rfl, rfl, rfl, HR5.out, ⟨trivial, rfl, rfl, by decide, by simp, by simp⟩, HC5.out, HS5.out, HB5.out⟩
    case round =>
      obtain ⟨i, at', F, cf, bs, G5, hi24, rfl, rfl, rfl, hrow, hst, hch, hzr, hbw⟩ := hrel
      clear HR5 HC5 HB5 HS5
      by_cases hgo : i < l.length ∧ i < 24
      case pos =>
        obtain ⟨hil, hi2⟩ := hgo
        have h1 : (i : Int) < (l.length : Int) := by omega
        have h2 : (i : Int) < 24 := by omega
        obtain ⟨b, o, rfl, hbB, hcell⟩ := HK.out i hil
        have hs := l[i].toNat_lt
        have HKW := Lib.hid (fun W (hW : Below wr.heap.size wr W) => show W.cell? ⟨b, o + i, none⟩ = some (.int .u8 (l[i].toNat : Int)) from (((hbw.trans (hW.mono hbw.size))).cell (p := ⟨b, _, none⟩) hbB).trans hcell)
        generalize l[i] = s at hs HKW hcell
        have g1 := hst.ge
        have g2 := hst.high
        have HZR := Lib.hid hzr
        have HROW := Lib.hid hrow
        have HST := Lib.hid hst
        have HCH := Lib.hid hch
        have HBW := Lib.hid hbw
        clear hrow hst hch hzr hbw hcell hbB
        have hw1 : IntKind.i64.wrap (s.toNat : Int) = (s.toNat : Int) := by rw [IntKind.wrap_i64]; omega
        have hw2 : IntKind.i64.wrap (at' + (s.toNat : Int)) = at' + (s.toNat : Int) := by rw [IntKind.wrap_i64]; omega
        have hw3 : IntKind.i64.wrap (at' + (s.toNat : Int) + 1) = at' + (s.toNat : Int) + 1 := by rw [IntKind.wrap_i64]; omega
        go_wp2_with fail
        refine wp_region_mid (fun a0 a' w' => ∃ (gs gc gb : Nat), a' = ((((((((((((((((((((a0.put (some 68) (.int .i64 at')).put (some 69) (.int .i64 at')).put (some 70) (.slice (some ⟨b, o, none⟩) l.length c0)).put (some 71) (.int .i64 (i : Int))).put (some 72) (.pointer (some ⟨b, o + i, none⟩))).put (some 73) (.int .u8 (s.toNat : Int))).put (some 74) (.int .i64 (s.toNat : Int))).put (some 75) (.int .i64 (at' + (s.toNat : Int)))).put (some 76) (.int .i64 (at' + (s.toNat : Int) + 1))).put (some 77) (.int .i64 at')).put (some 78) (.slice (some ⟨b, o, none⟩) l.length c0)).put (some 79) (.int .i64 (i : Int))).put (some 80) (.pointer (some ⟨b, o + i, none⟩))).put (some 81) (.int .u8 (s.toNat : Int))).put (some 82) (.slice (some ⟨gs, 0, none⟩) 1 1)).put (some 83) (.string (strB [s]))).put (some 84) (.agg #[.int .i64 1, .string ⟨#[107]⟩, .string (strB [s])])).put (some 85) (.slice (some ⟨gc, 0, none⟩) 1 1)).put (some 86) (.agg #[.int .i64 at', .int .i64 (at' + (s.toNat : Int) + 1), .int .i64 at', .slice (some ⟨gc, 0, none⟩) 1 1])).put (some 14) (.pointer (some ⟨gb, 0, none⟩))) ∧ Below wr.heap.size wr w' ∧ Whole w' gc 43 [.int .i64 1, .string ⟨#[107]⟩, .string (strB [s])] ∧ Whole w' gb 38 [.int .i64 at', .int .i64 (at' + (s.toNat : Int) + 1), .int .i64 at', .slice (some ⟨gc, 0, none⟩) 1 1] ∧ wr.heap.size ≤ gc ∧ wr.heap.size ≤ gb ∧ gc ≠ gb) ?mr ?mk
        case mr =>
          have hd_wd : Below wr.heap.size wr wr.drew := (Below.refl _ _).drew
          refine wp_region_planT (fun W => Below wr.heap.size wr W) (.take 0 (.take 1 (.take 2 (.take 3 (.take 4 (.take 5 (.take 6 (.take 7 (.take 8 (.take 9 (.take 10 (.take 11 (.take 12 (.take 13 (.fork 14 (.fork 15 (.take 16 (.fork 17 (.take 18 (.step 19 (.step 20 .done))) 19 (.step 17 (.take 18 (.step 20 .done))))) 19 (.step 15 (.take 16 (.step 17 (.take 18 (.step 20 .done)))))) 19 (.step 14 (.step 15 (.take 16 (.step 17 (.take 18 (.step 20 .done))))))))))))))))))))) (by kernel_rfl) (by kernel_rfl) (fun _ _ _ _ _ h => by cases h.1) hd_wd ?_
          obtain ⟨wd, hwd⟩ : ∃ wd, wd = wr.drew := ⟨_, rfl⟩
          rw [← hwd] at hd_wd ⊢
          clear hwd
          iterate 14 (refine PlanT.takeI (v := ?_) rfl rfl ?_ ?_; rotate_left; (focus (intro W hW; have k0 := HKW.out W hW; go_simp; (try with_reducible rfl); done)); (try simp only [Act.put, List.setIfInBounds_toArray, List.set_cons_zero, List.set_cons_succ]))
          refine ⟨?_, ?_⟩
          · skip
            refine wpOp_stepT rfl rfl (fun Kk hK => ?_)
            go_simp
            obtain ⟨wa, hE⟩ : ∃ V, V = wd.alloc (.cells #[.int .u8 (s.toNat : Int)] 5) := ⟨_, rfl⟩
            have hd_wa : Below wr.heap.size wr wa := by rw [hE]; exact hd_wd.alloc hd_wd.size _
            have hm_wa : Below wd.heap.size wd wa := by rw [hE]; exact (Below.refl _ _).alloc (Nat.le_refl _) _
            have hS : Whole wa wd.heap.size 5 [.int .u8 (s.toNat : Int)] := by rw [hE]; exact Whole.fresh wd _ [_]
            have hg_gs : wr.heap.size ≤ wd.heap.size := hd_wd.size
            have hs_gs : wa.heap.size = wd.heap.size + 1 := by rw [hE]; simp
            rw [← hE]
            obtain ⟨gs, hn⟩ : ∃ X, X = wd.heap.size := ⟨_, rfl⟩
            rw [← hn] at hS hg_gs hs_gs ⊢
            have HN_gs := Lib.hid hn
            have HG_gs := Lib.hid hs_gs
            clear hE hn hs_gs
            have hRB := RdB.of_whole hS (by have := hS.size; exact this)
            refine hK.out _ _ hd_wa ?_
            clear hK Kk
            (try simp only [Act.put, List.setIfInBounds_toArray, List.set_cons_zero, List.set_cons_succ])
            refine ⟨?_, ?_⟩
            · skip
              refine wpOp_stepT rfl rfl (fun Kk hK => ?_)
              have kcv := run_convB (RdB.of_whole hS hS.size)
              go_simp
              refine hK.out _ _ hd_wa ?_
              clear hK Kk kcv
              (try simp only [Act.put, List.setIfInBounds_toArray, List.set_cons_zero, List.set_cons_succ])
              iterate 1 (refine PlanT.takeI (v := ?_) rfl rfl ?_ ?_; rotate_left; (focus (intro W hW; go_simp; (try with_reducible rfl); done)); (try simp only [Act.put, List.setIfInBounds_toArray, List.set_cons_zero, List.set_cons_succ]))
              refine ⟨?_, ?_⟩
              · skip
                refine wpOp_stepT rfl rfl (fun Kk hK => ?_)
                go_simp
                obtain ⟨wb, hE⟩ : ∃ V, V = wa.alloc (.cells #[.int .i64 1, .string ⟨#[107]⟩, .string (strB [s])] 43) := ⟨_, rfl⟩
                have hd_wb : Below wr.heap.size wr wb := by rw [hE]; exact hd_wa.alloc hd_wa.size _
                have hm_wb : Below wa.heap.size wa wb := by rw [hE]; exact (Below.refl _ _).alloc (Nat.le_refl _) _
                have hC : Whole wb wa.heap.size 43 [.int .i64 1, .string ⟨#[107]⟩, .string (strB [s])] := by rw [hE]; exact Whole.fresh wa _ [_, _, _]
                have hg_gc : wr.heap.size ≤ wa.heap.size := hd_wa.size
                have hs_gc : wb.heap.size = wa.heap.size + 1 := by rw [hE]; simp
                rw [← hE]
                obtain ⟨gc, hn⟩ : ∃ X, X = wa.heap.size := ⟨_, rfl⟩
                rw [← hn] at hC hg_gc hs_gc ⊢
                have HN_gc := Lib.hid hn
                have HG_gc := Lib.hid hs_gc
                clear hE hn hs_gc
                replace hS := hS.below hm_wb hS.size
                refine hK.out _ _ hd_wb ?_
                clear hK Kk
                (try simp only [Act.put, List.setIfInBounds_toArray, List.set_cons_zero, List.set_cons_succ])
                iterate 1 (refine PlanT.takeI (v := ?_) rfl rfl ?_ ?_; rotate_left; (focus (intro W hW; go_simp; (try with_reducible rfl); done)); (try simp only [Act.put, List.setIfInBounds_toArray, List.set_cons_zero, List.set_cons_succ]))
                refine wpOp_stepT rfl rfl (fun Kk hK => ?_)
                go_simp
                obtain ⟨wc, hE⟩ : ∃ V, V = wb.alloc (.cells #[.int .i64 0, .int .i64 0, .int .i64 0, .slice none 0 0] 38) := ⟨_, rfl⟩
                have hd_wc : Below wr.heap.size wr wc := by rw [hE]; exact hd_wb.alloc hd_wb.size _
                have hm_wc : Below wb.heap.size wb wc := by rw [hE]; exact (Below.refl _ _).alloc (Nat.le_refl _) _
                have hB : Whole wc wb.heap.size 38 [.int .i64 0, .int .i64 0, .int .i64 0, .slice none 0 0] := by rw [hE]; exact Whole.fresh wb _ [_, _, _, _]
                have hg_gb : wr.heap.size ≤ wb.heap.size := hd_wb.size
                have hs_gb : wc.heap.size = wb.heap.size + 1 := by rw [hE]; simp
                rw [← hE]
                obtain ⟨gb, hn⟩ : ∃ X, X = wb.heap.size := ⟨_, rfl⟩
                rw [← hn] at hB hg_gb hs_gb ⊢
                have HN_gb := Lib.hid hn
                have HG_gb := Lib.hid hs_gb
                clear hE hn hs_gb
                replace hS := hS.below hm_wc hS.size
                replace hC := hC.below hm_wc hC.size
                refine hK.out _ _ hd_wc ?_
                clear hK Kk
                (try simp only [Act.put, List.setIfInBounds_toArray, List.set_cons_zero, List.set_cons_succ])
                refine wpOp_stepT rfl rfl (fun Kk hK => ?_)
                have c0 := hB.cell 0 _ rfl
                have c1 := hB.cell 1 _ rfl
                have c2 := hB.cell 2 _ rfl
                have c3 := hB.cell 3 _ rfl
                have f0 := hB.frozen 0
                have f1 := hB.frozen 1
                have f2 := hB.frozen 2
                have f3 := hB.frozen 3
                go_simp
                have hmx := (((((Mv.refl (fun i => i = gb) wc).one 0 (.int .i64 at')).one 1 (.int .i64 (at' + (s.toNat : Int) + 1))).one 2 (.int .i64 at')).one 3 (.slice (some ⟨gc, 0, none⟩) 1 1))
                have hx2 := ((((hB.put 0 (.int .i64 at')).put 1 (.int .i64 (at' + (s.toNat : Int) + 1))).put 2 (.int .i64 at')).put 3 (.slice (some ⟨gc, 0, none⟩) 1 1))
                simp only [List.set] at hx2
                have hbc : gc ≠ gb := by have := HN_gc.out; have := HG_gc.out; have := HN_gb.out; have := HG_gb.out; have := hm_wb.size; have := hm_wc.size; omega
                have hd8 := hd_wc.trans (hmx.below (B := wr.heap.size) hd_wc.size (fun i e => by omega))
                clear c0 f0 c1 f1 c2 f2 c3 f3
                refine hK.out _ _ hd8 ?_
                clear hK Kk
                (try simp only [Act.put, List.setIfInBounds_toArray, List.set_cons_zero, List.set_cons_succ])
                simp only [PlanT]
                exact ⟨(by first | rfl | trivial), gs, gc, gb, (by first | rfl | (simp only [Act.put, List.setIfInBounds_toArray, List.set_cons_zero, List.set_cons_succ])), hd8, hmx.whole hC hbc, hx2, hg_gc, hg_gb, hbc⟩
              · skip
                refine wpOp_stepT rfl rfl (fun Kk hK => ?_)
                go_simp
                obtain ⟨wb, hE⟩ : ∃ V, V = wa.alloc (.cells #[.int .i64 0, .int .i64 0, .int .i64 0, .slice none 0 0] 38) := ⟨_, rfl⟩
                have hd_wb : Below wr.heap.size wr wb := by rw [hE]; exact hd_wa.alloc hd_wa.size _
                have hm_wb : Below wa.heap.size wa wb := by rw [hE]; exact (Below.refl _ _).alloc (Nat.le_refl _) _
                have hB : Whole wb wa.heap.size 38 [.int .i64 0, .int .i64 0, .int .i64 0, .slice none 0 0] := by rw [hE]; exact Whole.fresh wa _ [_, _, _, _]
                have hg_gb : wr.heap.size ≤ wa.heap.size := hd_wa.size
                have hs_gb : wb.heap.size = wa.heap.size + 1 := by rw [hE]; simp
                rw [← hE]
                obtain ⟨gb, hn⟩ : ∃ X, X = wa.heap.size := ⟨_, rfl⟩
                rw [← hn] at hB hg_gb hs_gb ⊢
                have HN_gb := Lib.hid hn
                have HG_gb := Lib.hid hs_gb
                clear hE hn hs_gb
                replace hS := hS.below hm_wb hS.size
                refine hK.out _ _ hd_wb ?_
                clear hK Kk
                (try simp only [Act.put, List.setIfInBounds_toArray, List.set_cons_zero, List.set_cons_succ])
                refine wpOp_stepT rfl rfl (fun Kk hK => ?_)
                go_simp
                obtain ⟨wc, hE⟩ : ∃ V, V = wb.alloc (.cells #[.int .i64 1, .string ⟨#[107]⟩, .string (strB [s])] 43) := ⟨_, rfl⟩
                have hd_wc : Below wr.heap.size wr wc := by rw [hE]; exact hd_wb.alloc hd_wb.size _
                have hm_wc : Below wb.heap.size wb wc := by rw [hE]; exact (Below.refl _ _).alloc (Nat.le_refl _) _
                have hC : Whole wc wb.heap.size 43 [.int .i64 1, .string ⟨#[107]⟩, .string (strB [s])] := by rw [hE]; exact Whole.fresh wb _ [_, _, _]
                have hg_gc : wr.heap.size ≤ wb.heap.size := hd_wb.size
                have hs_gc : wc.heap.size = wb.heap.size + 1 := by rw [hE]; simp
                rw [← hE]
                obtain ⟨gc, hn⟩ : ∃ X, X = wb.heap.size := ⟨_, rfl⟩
                rw [← hn] at hC hg_gc hs_gc ⊢
                have HN_gc := Lib.hid hn
                have HG_gc := Lib.hid hs_gc
                clear hE hn hs_gc
                replace hS := hS.below hm_wc hS.size
                replace hB := hB.below hm_wc hB.size
                refine hK.out _ _ hd_wc ?_
                clear hK Kk
                (try simp only [Act.put, List.setIfInBounds_toArray, List.set_cons_zero, List.set_cons_succ])
                iterate 1 (refine PlanT.takeI (v := ?_) rfl rfl ?_ ?_; rotate_left; (focus (intro W hW; go_simp; (try with_reducible rfl); done)); (try simp only [Act.put, List.setIfInBounds_toArray, List.set_cons_zero, List.set_cons_succ]))
                refine wpOp_stepT rfl rfl (fun Kk hK => ?_)
                have c0 := hB.cell 0 _ rfl
                have c1 := hB.cell 1 _ rfl
                have c2 := hB.cell 2 _ rfl
                have c3 := hB.cell 3 _ rfl
                have f0 := hB.frozen 0
                have f1 := hB.frozen 1
                have f2 := hB.frozen 2
                have f3 := hB.frozen 3
                go_simp
                have hmx := (((((Mv.refl (fun i => i = gb) wc).one 0 (.int .i64 at')).one 1 (.int .i64 (at' + (s.toNat : Int) + 1))).one 2 (.int .i64 at')).one 3 (.slice (some ⟨gc, 0, none⟩) 1 1))
                have hx2 := ((((hB.put 0 (.int .i64 at')).put 1 (.int .i64 (at' + (s.toNat : Int) + 1))).put 2 (.int .i64 at')).put 3 (.slice (some ⟨gc, 0, none⟩) 1 1))
                simp only [List.set] at hx2
                have hbc : gc ≠ gb := by have := HN_gc.out; have := HG_gc.out; have := HN_gb.out; have := HG_gb.out; have := hm_wb.size; have := hm_wc.size; omega
                have hd8 := hd_wc.trans (hmx.below (B := wr.heap.size) hd_wc.size (fun i e => by omega))
                clear c0 f0 c1 f1 c2 f2 c3 f3
                refine hK.out _ _ hd8 ?_
                clear hK Kk
                (try simp only [Act.put, List.setIfInBounds_toArray, List.set_cons_zero, List.set_cons_succ])
                simp only [PlanT]
                exact ⟨(by first | rfl | trivial), gs, gc, gb, (by first | rfl | (simp only [Act.put, List.setIfInBounds_toArray, List.set_cons_zero, List.set_cons_succ])), hd8, hmx.whole hC hbc, hx2, hg_gc, hg_gb, hbc⟩
            · skip
              refine wpOp_stepT rfl rfl (fun Kk hK => ?_)
              go_simp
              obtain ⟨wb, hE⟩ : ∃ V, V = wa.alloc (.cells #[.int .i64 0, .int .i64 0, .int .i64 0, .slice none 0 0] 38) := ⟨_, rfl⟩
              have hd_wb : Below wr.heap.size wr wb := by rw [hE]; exact hd_wa.alloc hd_wa.size _
              have hm_wb : Below wa.heap.size wa wb := by rw [hE]; exact (Below.refl _ _).alloc (Nat.le_refl _) _
              have hB : Whole wb wa.heap.size 38 [.int .i64 0, .int .i64 0, .int .i64 0, .slice none 0 0] := by rw [hE]; exact Whole.fresh wa _ [_, _, _, _]
              have hg_gb : wr.heap.size ≤ wa.heap.size := hd_wa.size
              have hs_gb : wb.heap.size = wa.heap.size + 1 := by rw [hE]; simp
              rw [← hE]
              obtain ⟨gb, hn⟩ : ∃ X, X = wa.heap.size := ⟨_, rfl⟩
              rw [← hn] at hB hg_gb hs_gb ⊢
              have HN_gb := Lib.hid hn
              have HG_gb := Lib.hid hs_gb
              clear hE hn hs_gb
              replace hS := hS.below hm_wb hS.size
              refine hK.out _ _ hd_wb ?_
              clear hK Kk
              (try simp only [Act.put, List.setIfInBounds_toArray, List.set_cons_zero, List.set_cons_succ])
              refine wpOp_stepT rfl rfl (fun Kk hK => ?_)
              have kcv := run_convB (RdB.of_whole hS hS.size)
              go_simp
              refine hK.out _ _ hd_wb ?_
              clear hK Kk kcv
              (try simp only [Act.put, List.setIfInBounds_toArray, List.set_cons_zero, List.set_cons_succ])
              iterate 1 (refine PlanT.takeI (v := ?_) rfl rfl ?_ ?_; rotate_left; (focus (intro W hW; go_simp; (try with_reducible rfl); done)); (try simp only [Act.put, List.setIfInBounds_toArray, List.set_cons_zero, List.set_cons_succ]))
              refine wpOp_stepT rfl rfl (fun Kk hK => ?_)
              go_simp
              obtain ⟨wc, hE⟩ : ∃ V, V = wb.alloc (.cells #[.int .i64 1, .string ⟨#[107]⟩, .string (strB [s])] 43) := ⟨_, rfl⟩
              have hd_wc : Below wr.heap.size wr wc := by rw [hE]; exact hd_wb.alloc hd_wb.size _
              have hm_wc : Below wb.heap.size wb wc := by rw [hE]; exact (Below.refl _ _).alloc (Nat.le_refl _) _
              have hC : Whole wc wb.heap.size 43 [.int .i64 1, .string ⟨#[107]⟩, .string (strB [s])] := by rw [hE]; exact Whole.fresh wb _ [_, _, _]
              have hg_gc : wr.heap.size ≤ wb.heap.size := hd_wb.size
              have hs_gc : wc.heap.size = wb.heap.size + 1 := by rw [hE]; simp
              rw [← hE]
              obtain ⟨gc, hn⟩ : ∃ X, X = wb.heap.size := ⟨_, rfl⟩
              rw [← hn] at hC hg_gc hs_gc ⊢
              have HN_gc := Lib.hid hn
              have HG_gc := Lib.hid hs_gc
              clear hE hn hs_gc
              replace hS := hS.below hm_wc hS.size
              replace hB := hB.below hm_wc hB.size
              refine hK.out _ _ hd_wc ?_
              clear hK Kk
              (try simp only [Act.put, List.setIfInBounds_toArray, List.set_cons_zero, List.set_cons_succ])
              iterate 1 (refine PlanT.takeI (v := ?_) rfl rfl ?_ ?_; rotate_left; (focus (intro W hW; go_simp; (try with_reducible rfl); done)); (try simp only [Act.put, List.setIfInBounds_toArray, List.set_cons_zero, List.set_cons_succ]))
              refine wpOp_stepT rfl rfl (fun Kk hK => ?_)
              have c0 := hB.cell 0 _ rfl
              have c1 := hB.cell 1 _ rfl
              have c2 := hB.cell 2 _ rfl
              have c3 := hB.cell 3 _ rfl
              have f0 := hB.frozen 0
              have f1 := hB.frozen 1
              have f2 := hB.frozen 2
              have f3 := hB.frozen 3
              go_simp
              have hmx := (((((Mv.refl (fun i => i = gb) wc).one 0 (.int .i64 at')).one 1 (.int .i64 (at' + (s.toNat : Int) + 1))).one 2 (.int .i64 at')).one 3 (.slice (some ⟨gc, 0, none⟩) 1 1))
              have hx2 := ((((hB.put 0 (.int .i64 at')).put 1 (.int .i64 (at' + (s.toNat : Int) + 1))).put 2 (.int .i64 at')).put 3 (.slice (some ⟨gc, 0, none⟩) 1 1))
              simp only [List.set] at hx2
              have hbc : gc ≠ gb := by have := HN_gc.out; have := HG_gc.out; have := HN_gb.out; have := HG_gb.out; have := hm_wb.size; have := hm_wc.size; omega
              have hd8 := hd_wc.trans (hmx.below (B := wr.heap.size) hd_wc.size (fun i e => by omega))
              clear c0 f0 c1 f1 c2 f2 c3 f3
              refine hK.out _ _ hd8 ?_
              clear hK Kk
              (try simp only [Act.put, List.setIfInBounds_toArray, List.set_cons_zero, List.set_cons_succ])
              simp only [PlanT]
              exact ⟨(by first | rfl | trivial), gs, gc, gb, (by first | rfl | (simp only [Act.put, List.setIfInBounds_toArray, List.set_cons_zero, List.set_cons_succ])), hd8, hmx.whole hC hbc, hx2, hg_gc, hg_gb, hbc⟩
          · skip
            refine wpOp_stepT rfl rfl (fun Kk hK => ?_)
            go_simp
            obtain ⟨wa, hE⟩ : ∃ V, V = wd.alloc (.cells #[.int .i64 0, .int .i64 0, .int .i64 0, .slice none 0 0] 38) := ⟨_, rfl⟩
            have hd_wa : Below wr.heap.size wr wa := by rw [hE]; exact hd_wd.alloc hd_wd.size _
            have hm_wa : Below wd.heap.size wd wa := by rw [hE]; exact (Below.refl _ _).alloc (Nat.le_refl _) _
            have hB : Whole wa wd.heap.size 38 [.int .i64 0, .int .i64 0, .int .i64 0, .slice none 0 0] := by rw [hE]; exact Whole.fresh wd _ [_, _, _, _]
            have hg_gb : wr.heap.size ≤ wd.heap.size := hd_wd.size
            have hs_gb : wa.heap.size = wd.heap.size + 1 := by rw [hE]; simp
            rw [← hE]
            obtain ⟨gb, hn⟩ : ∃ X, X = wd.heap.size := ⟨_, rfl⟩
            rw [← hn] at hB hg_gb hs_gb ⊢
            have HN_gb := Lib.hid hn
            have HG_gb := Lib.hid hs_gb
            clear hE hn hs_gb
            refine hK.out _ _ hd_wa ?_
            clear hK Kk
            (try simp only [Act.put, List.setIfInBounds_toArray, List.set_cons_zero, List.set_cons_succ])
            refine wpOp_stepT rfl rfl (fun Kk hK => ?_)
            go_simp
            obtain ⟨wb, hE⟩ : ∃ V, V = wa.alloc (.cells #[.int .u8 (s.toNat : Int)] 5) := ⟨_, rfl⟩
            have hd_wb : Below wr.heap.size wr wb := by rw [hE]; exact hd_wa.alloc hd_wa.size _
            have hm_wb : Below wa.heap.size wa wb := by rw [hE]; exact (Below.refl _ _).alloc (Nat.le_refl _) _
            have hS : Whole wb wa.heap.size 5 [.int .u8 (s.toNat : Int)] := by rw [hE]; exact Whole.fresh wa _ [_]
            have hg_gs : wr.heap.size ≤ wa.heap.size := hd_wa.size
            have hs_gs : wb.heap.size = wa.heap.size + 1 := by rw [hE]; simp
            rw [← hE]
            obtain ⟨gs, hn⟩ : ∃ X, X = wa.heap.size := ⟨_, rfl⟩
            rw [← hn] at hS hg_gs hs_gs ⊢
            have HN_gs := Lib.hid hn
            have HG_gs := Lib.hid hs_gs
            clear hE hn hs_gs
            replace hB := hB.below hm_wb hB.size
            have hRB := RdB.of_whole hS (by have := hS.size; exact this)
            refine hK.out _ _ hd_wb ?_
            clear hK Kk
            (try simp only [Act.put, List.setIfInBounds_toArray, List.set_cons_zero, List.set_cons_succ])
            refine wpOp_stepT rfl rfl (fun Kk hK => ?_)
            have kcv := run_convB (RdB.of_whole hS hS.size)
            go_simp
            refine hK.out _ _ hd_wb ?_
            clear hK Kk kcv
            (try simp only [Act.put, List.setIfInBounds_toArray, List.set_cons_zero, List.set_cons_succ])
            iterate 1 (refine PlanT.takeI (v := ?_) rfl rfl ?_ ?_; rotate_left; (focus (intro W hW; go_simp; (try with_reducible rfl); done)); (try simp only [Act.put, List.setIfInBounds_toArray, List.set_cons_zero, List.set_cons_succ]))
            refine wpOp_stepT rfl rfl (fun Kk hK => ?_)
            go_simp
            obtain ⟨wc, hE⟩ : ∃ V, V = wb.alloc (.cells #[.int .i64 1, .string ⟨#[107]⟩, .string (strB [s])] 43) := ⟨_, rfl⟩
            have hd_wc : Below wr.heap.size wr wc := by rw [hE]; exact hd_wb.alloc hd_wb.size _
            have hm_wc : Below wb.heap.size wb wc := by rw [hE]; exact (Below.refl _ _).alloc (Nat.le_refl _) _
            have hC : Whole wc wb.heap.size 43 [.int .i64 1, .string ⟨#[107]⟩, .string (strB [s])] := by rw [hE]; exact Whole.fresh wb _ [_, _, _]
            have hg_gc : wr.heap.size ≤ wb.heap.size := hd_wb.size
            have hs_gc : wc.heap.size = wb.heap.size + 1 := by rw [hE]; simp
            rw [← hE]
            obtain ⟨gc, hn⟩ : ∃ X, X = wb.heap.size := ⟨_, rfl⟩
            rw [← hn] at hC hg_gc hs_gc ⊢
            have HN_gc := Lib.hid hn
            have HG_gc := Lib.hid hs_gc
            clear hE hn hs_gc
            replace hB := hB.below hm_wc hB.size
            replace hS := hS.below hm_wc hS.size
            refine hK.out _ _ hd_wc ?_
            clear hK Kk
            (try simp only [Act.put, List.setIfInBounds_toArray, List.set_cons_zero, List.set_cons_succ])
            iterate 1 (refine PlanT.takeI (v := ?_) rfl rfl ?_ ?_; rotate_left; (focus (intro W hW; go_simp; (try with_reducible rfl); done)); (try simp only [Act.put, List.setIfInBounds_toArray, List.set_cons_zero, List.set_cons_succ]))
            refine wpOp_stepT rfl rfl (fun Kk hK => ?_)
            have c0 := hB.cell 0 _ rfl
            have c1 := hB.cell 1 _ rfl
            have c2 := hB.cell 2 _ rfl
            have c3 := hB.cell 3 _ rfl
            have f0 := hB.frozen 0
            have f1 := hB.frozen 1
            have f2 := hB.frozen 2
            have f3 := hB.frozen 3
            go_simp
            have hmx := (((((Mv.refl (fun i => i = gb) wc).one 0 (.int .i64 at')).one 1 (.int .i64 (at' + (s.toNat : Int) + 1))).one 2 (.int .i64 at')).one 3 (.slice (some ⟨gc, 0, none⟩) 1 1))
            have hx2 := ((((hB.put 0 (.int .i64 at')).put 1 (.int .i64 (at' + (s.toNat : Int) + 1))).put 2 (.int .i64 at')).put 3 (.slice (some ⟨gc, 0, none⟩) 1 1))
            simp only [List.set] at hx2
            have hbc : gc ≠ gb := by have := HN_gc.out; have := HG_gc.out; have := HN_gb.out; have := HG_gb.out; have := hm_wb.size; have := hm_wc.size; omega
            have hd8 := hd_wc.trans (hmx.below (B := wr.heap.size) hd_wc.size (fun i e => by omega))
            clear c0 f0 c1 f1 c2 f2 c3 f3
            refine hK.out _ _ hd8 ?_
            clear hK Kk
            (try simp only [Act.put, List.setIfInBounds_toArray, List.set_cons_zero, List.set_cons_succ])
            simp only [PlanT]
            exact ⟨(by first | rfl | trivial), gs, gc, gb, (by first | rfl | (simp only [Act.put, List.setIfInBounds_toArray, List.set_cons_zero, List.set_cons_succ])), hd8, hmx.whole hC hbc, hx2, hg_gc, hg_gb, hbc⟩
        case mk =>
          rintro a' w6 ⟨gs, gc, gb, rfl, hb6, hC6, hB6, hgc, hgb, hbc⟩
          (try simp only [Act.put, List.setIfInBounds_toArray, List.set_cons_zero, List.set_cons_succ])
          have hGl : ∀ i, G5 i → i < wr.heap.size := fun i hi => (HCH.out.low.2 i hi).2
          have hch6 := HCH.out.mv (Mv.of_new hb6 (fun _ => False)) (fun _ _ h => h)
          have hp6 := hpush_any w.heap.size q G5 _ 1 (stB at' s) (.slice (some ⟨gc, 0, none⟩) 1 1) w6 (by decide) (tiny_one _ _ _ _ (by omega) (by omega) (by omega)) (Ch.spare_mk _ _ _ _ _ (by omega)) hch6 (RdG.oneC (c := stC s) (G := fun _ => False) hC6 hC6.size (fun h => h)).rd ⟨_, rfl, rfl⟩
          rw [show (⟨[chG bs], 0, 1 + 2 * i, 524288⟩ : Ch).push 1 (stB at' s) = (at' + (s.toNat : Int) + 1, 0, ⟨[(chG bs).add (stB at' s)], 0, 1 + 2 * i + 2, 524288⟩) from
            Ch.push_one (chG bs) _ _ _ _ (by show ¬ (1 : Int) < 0; decide) (by rw [chG_top HST.out]; show at' < at' + (s.toNat : Int) + 1; omega) (chG_top HST.out).symm (by show (bs.map (·.t)).length < 24; rw [List.length_map, HST.out.len]; omega)] at hp6
          unfold bval stB at hp6
          simp only at hp6
          have x0 := hB6.cell 0 _ rfl
          have x1 := hB6.cell 1 _ rfl
          have x2 := hB6.cell 2 _ rfl
          have x3 := hB6.cell 3 _ rfl
          have HP6 := Lib.hid hp6
          have HS6 := Lib.hid hb6.size
          have HB6 := Lib.hid hB6
          have HC6 := Lib.hid hC6
          have HR6 := Lib.hid (HROW.out.new hb6)
          have HW6 := Lib.hid (HBW.out.trans (hb6.mono HBW.out.size))
          have HCH6 := Lib.hid hch6
          have HN6 := Lib.hid (show ¬ G5 gc ∧ ¬ G5 gb ∧ (∀ g, (Value.slice F bs.length cf).ownBlock = some g → g ≠ gc ∧ g ≠ gb) from ⟨fun h => by have := hGl _ h; omega, fun h => by have := hGl _ h; omega, fun g hg => by have := (Own.low HROW.out.own hg).2; omega⟩)
          clear hp6 hB6 hC6 hb6 hch6 HKW HCH HBW hGl HROW
          go_wp2_with fail
          refine HP6.out.mono ?_
          rintro e w7 ⟨G7, rfl, hc7, hG7, hm7⟩
          have HR7 := Lib.hid (HR6.out.moved hG7 hm7)
          have hB7 := hm7.whole HB6.out HN6.out.2.1
          have HC7 := Lib.hid (hm7.whole HC6.out HN6.out.1)
          have HW7 := Lib.hid (HW6.out.trans (hm7.below HCH6.out.low.1 (fun i hi => (HCH6.out.low.2 i hi).1)))
          have HN7 := Lib.hid (show ¬ G7 gc from fun h => by
            rcases hG7 _ h with k | k
            · exact HN6.out.1 k
            · have := HC6.out.size; omega)
          have HCH7 := Lib.hid hc7
          have HZ4 := Lib.hid (show w4.heap.size ≤ w7.heap.size from Nat.le_trans HZR.out (Nat.le_trans HS6.out hm7.size))
          have y0 := hB7.cell 0 _ rfl
          have y1 := hB7.cell 1 _ rfl
          have y2 := hB7.cell 2 _ rfl
          have y3 := hB7.cell 3 _ rfl
          have hm8 : Mv (fun _ => False) w7 (w7.alloc (.cells #[.int .i64 at', .int .i64 (at' + (s.toNat : Int) + 1), .int .i64 at', .slice (some ⟨gc, 0, none⟩) 1 1] 38)) := (Mv.refl _ w7).alloc _
          have HB8 := Lib.hid (Mv.below hm8 (Nat.le_refl _) (fun _ h => h.elim))
          have HO8 := Lib.hid (HR7.out.own.mv hm8 (fun _ _ h => h))
          have HR8 := Lib.hid (show Rd encBt 4 (w7.alloc (.cells #[.int .i64 at', .int .i64 (at' + (s.toNat : Int) + 1), .int .i64 at', .slice (some ⟨gc, 0, none⟩) 1 1] 38)) (w7.heap.size + 1) (.slice (some ⟨w7.heap.size, 0, none⟩) 1 1) [⟨stB at' s, some ⟨gc, 0, none⟩, 1⟩] from Rd.one w7 ⟨stB at' s, some ⟨gc, 0, none⟩, 1⟩ 38)
          have hz8 : w4.heap.size ≤ (w7.alloc (.cells #[.int .i64 at', .int .i64 (at' + (s.toNat : Int) + 1), .int .i64 at', .slice (some ⟨gc, 0, none⟩) 1 1] 38)).heap.size := by
            exact Nat.le_trans HZ4.out HB8.out.size
          have hlb : bs.length ≤ 24 := by have := HST.out.len; omega
          clear hc7 hG7 hm7 hB7 hm8 x0 x1 x2 x3 HP6 HB6 HC6 HR6 HW6 HCH6
          go_wp2_with (at_builtin; go_must (refine wpList_addT rfl _ _ rfl w4.heap.size (.slice F bs.length cf) bs rfl HO8.out (w7.heap.size + 1) _ [⟨stB at' s, some ⟨gc, 0, none⟩, 1⟩] rfl HR8.out (by show _ + 1 ≤ _; omega) hz8 ?_))
          rintro A' c' w9 HO9 HG9 HN9
          have hgl := HG9.out.size
          have HR9 := Lib.hid (RowP.add (w := w7.alloc (.cells #[.int .i64 at', .int .i64 (at' + (s.toNat : Int) + 1), .int .i64 at', .slice (some ⟨gc, 0, none⟩) 1 1] 38)) (HR7.out.new HB8.out) HO9.out HG9.out HN9.out (fun i hi => Nat.lt_of_lt_of_le (HCH7.out.low.2 i hi).2 HB8.out.size) (fun x hx => by
            rw [List.mem_singleton.1 hx]
            exact RdG.oneC (c := stC s) (HC7.out.below HB8.out HC7.out.size) (Nat.lt_of_lt_of_le HC7.out.size HB8.out.size) (fun h => by
              rcases h with h | h
              · exact HN7.out h
              · exact (HN6.out.2.2 gc h).1 rfl)))
          have HB9 := Lib.hid (Own.grown HO8.out (HW7.out.trans (HB8.out.mono HW7.out.size)) HG9.out hs4 (Nat.le_trans HW7.out.size HB8.out.size))
          have HS9 := Lib.hid (Nat.le_trans HZ4.out (Nat.le_trans HB8.out.size hgl))
          have HCH9 := Lib.hid ((HCH7.out.mv (Mv.of_new HB8.out (fun _ => False)) (fun _ _ h => h)).mv (Mv.of_grown HG9.out) (fun i hi e => HR7.out.no i e.symm hi))
          have HST9 := Lib.hid (HST.out.add s (by omega) (some ⟨gc, 0, none⟩) 1)
          have HAD := Lib.hid (chG_add (at' := at') (l := bs) s (some ⟨gc, 0, none⟩) 1)
          clear HO8 HR8 hz8 HG9 HN9 hgl HO9 y0 y1 y2 y3
          go_wp2_with fail
          go_roundw
          case rel =>
            refine ⟨i + 1, at' + (s.toNat : Int) + 1, A', c', bs ++ [⟨stB at' s, some ⟨gc, 0, none⟩, 1⟩], G7, by omega, by go_num, rfl, by simp, ?_, HST9.out, ?_, HS9.out, HB9.out⟩
            · have h := HR9.out
              simpa using h
            · rw [← HAD.out]
              exact HCH9.out
          case measure => simp [intOf]; omega
      case neg =>
        have hex : ¬ ((i : Int) < (l.length : Int)) ∨ ((i : Int) < (l.length : Int) ∧ ¬ ((i : Int) < 24)) := by omega
        have HROW := Lib.hid hrow
        have HST := Lib.hid hst
        have HCH := Lib.hid hch
        have HBW := Lib.hid hbw
        have HZR := Lib.hid hzr
        clear hrow hst hch hbw hzr hgo
        rcases hex with h1 | ⟨h1, h2⟩
        all_goals
          go_wp2_with fail
          go_meet
          case rel => exact ⟨i, at', F, cf, bs, G5, hi24, rfl, rfl, HROW.out, HST.out, HCH.out, HZR.out, HBW.out⟩
  case rest =>
  obtain ⟨i, at', F, cf, bs, G6, hi24, rfl, rfl, hrow, hst, hch, hzr, hbw⟩ := hcut
  obtain ⟨x0, hx0⟩ : ∃ x, x = wc := ⟨_, rfl⟩
  rw [← hx0] at hrow hch hzr hbw ⊢
  clear hx0
  obtain ⟨BT, hBT⟩ : ∃ L, L = bs.map (·.t) := ⟨_, rfl⟩
  have hchain : chainB 7 BT := by rw [hBT]; exact hst.chain
  have htop : topB 7 BT = at' := by rw [hBT]; exact hst.top
  have hBl : BT.length = bs.length := by rw [hBT, List.length_map]
  have hbl24 : bs.length ≤ 24 := by have := hst.len; omega
  have hat : 7 ≤ at' ∧ at' < 100000 := by have := hst.ge; have := hst.high; omega
  obtain ⟨x1, hx1⟩ : ∃ x1, x1 = x0.alloc (.cells #[] 38) := ⟨_, rfl⟩
  have hb1 : Below x0.heap.size x0 x1 := by rw [hx1]; exact (Below.refl _ x0).alloc (Nat.le_refl _) _
  have hr1 : RowP x1 x0.heap.size G6 (.slice (some ⟨x0.heap.size, 0, none⟩) 0 0) [] := ⟨by rw [hx1]; exact Own.empty _ _ (Nat.le_refl _), fun g hg hG => by
    have h1 := (hch.low.2 g hG).2
    have h2 : x0.heap.size = g := by simpa [Value.ownBlock] using hg
    omega, fun x hx => by cases hx⟩
  have HR1 := Lib.hid hr1
  have HB1 := Lib.hid hb1
  have HROW := Lib.hid hrow
  have HST := Lib.hid hst
  have HCH := Lib.hid hch
  have HBW := Lib.hid hbw
  have HBT := Lib.hid hBT
  have HBL := Lib.hid hBl
  have HCN := Lib.hid hchain
  have HTP := Lib.hid htop
  have hz0 := HBW.out.size
  obtain ⟨m5, hm5⟩ : ∃ m5, m5 = most % 5 := ⟨_, rfl⟩
  have hm5' : m5 < 5 := by omega
  have hq1 : Int.tmod (most : Int) 5 = (m5 : Int) := by rw [hm5]; simp [Int.tmod]
  have hq2 : (most : Int) % 5 = (m5 : Int) := by omega
  clear hm5 hr1 hb1 hrow hst hch hbw hBT hBl hchain htop hzr HK HLL HR5 HC5 HB5 HS5
  go_upto_block 2 with fail
  rw [← hx1]
  clear hx1
  go_cut [17] (fun gv wx => ∃ (F2 : Option Addr) (c2 : Nat) (gl : List BtV), gv = .slice F2 gl.length c2 ∧ RowP wx x0.heap.size G6 (.slice F2 gl.length c2) gl ∧ gl.map (·.t) = BT ∧ Below x0.heap.size x0 wx)
  case first =>
    go_wp2_with fail
    go_loopw [17, 18, 19] (fun gv fv kv wr => ∃ (k j : Nat) (F2 : Option Addr) (c2 : Nat) (gl : List BtV), k ≤ 30 ∧ kv = .int .i64 (k : Int) ∧ j ≤ BT.length ∧ (k ≤ j ∨ j = BT.length) ∧ fv = .int .i64 (topB 7 (BT.take j)) ∧ gv = .slice F2 gl.length c2 ∧ RowP wr x0.heap.size G6 (.slice F2 gl.length c2) gl ∧ gl.map (·.t) = BT.take j ∧ Below x0.heap.size x0 wr) (fun _ _ kv _ => 30 - (intOf kv).toNat)
    case atStart => exact ⟨0, 0, _, 0, [], by omega, rfl, by omega, .inl (by omega), rfl, rfl, HR1.out, rfl, HB1.out⟩
    case round =>
      obtain ⟨k, j, F2, c2, gl, hk30, rfl, hj, hkj, rfl, rfl, hrw, hgl, hbx⟩ := hrel
      clear HR1 HB1
      by_cases hk : k < 30
      case neg =>
        have hk' : k = 30 := by omega
        have h1 : ¬ (k : Int) < 30 := by omega
        have HROW2 := Lib.hid hrw
        have HGL := Lib.hid (show gl.map (·.t) = BT from by
          rw [hgl]
          exact List.take_of_length_le (by have := HBL.out; omega))
        have HBX := Lib.hid hbx
        clear hrw hgl hbx hkj hk' hj
        go_wp2_with fail
        go_meet
        case rel => exact ⟨F2, c2, gl, rfl, HROW2.out, HGL.out, HBX.out⟩
      case pos =>
        have h1 : (k : Int) < 30 := by omega
        have hfr := topB_take_le HCN.out j
        rw [HTP.out] at hfr
        have hcx := HCH.out.mv (Mv.of_new hbx (fun _ => False)) (fun _ _ h => h)
        obtain ⟨fr, hf⟩ : ∃ fr, fr = topB 7 (BT.take j) := ⟨_, rfl⟩
        rw [← hf] at hfr ⊢
        have hp := hpeek_any w.heap.size q G6 _ 1 fr ((m5 : Int) + 1) wr (by decide) (by omega) (by omega) hcx ⟨_, rfl, rfl⟩
        rw [show (⟨[chG bs], 0, 1 + 2 * i, 524288⟩ : Ch).peek 1 fr ((m5 : Int) + 1) = ((BT.drop j).take (m5 + 1), (chG bs).known, 0) from by
          rw [show (1 : Int) = (chG bs).epoch from rfl, Ch.peek_one _ _ _ _ _ _ (by show (7 : Int) ≤ fr; omega), show (chG bs).held = BT.take j ++ BT.drop j from by rw [List.take_append_drop]; exact HBT.out.symm, hf, Ch.behind_app (by rw [List.take_append_drop]; exact HCN.out)]
          congr 2] at hp
        simp only at hp
        have HP := Lib.hid hp
        have HROW2 := Lib.hid hrw
        have HGL := Lib.hid hgl
        have HBX := Lib.hid hbx
        have HF := Lib.hid hf
        have HCX := Lib.hid hcx
        have HKJ := Lib.hid (And.intro hj hkj)
        clear hp hrw hgl hbx hf hcx hj hkj
        go_wp2_with fail
        refine HP.out.mono ?_
        rintro e w6 ⟨u6, l6, rfl, hl6, hr6, hb6⟩
        have hn6 : l6.length = min (m5 + 1) (BT.length - j) := by have := congrArg List.length hl6; simpa using this
        obtain ⟨A6, c6, rfl, -, hi6⟩ := hr6.at
        have HR6 := Lib.hid hr6
        have HB6 := Lib.hid hb6
        have HROW6 := Lib.hid (HROW2.out.new hb6)
        have HBX6 := Lib.hid (HBX.out.trans (hb6.mono HBX.out.size))
        by_cases hn0 : l6.length = 0
        · have hj' : BT.length ≤ j := by omega
          have HGL2 := Lib.hid (show gl.map (·.t) = BT from by
            rw [HGL.out]
            exact List.take_of_length_le hj')
          rw [hn0]
          clear hl6 hr6 hb6 hi6 hn6 hn0 hj' HP HR6 HB6
          go_wp2_with fail
          go_meet
          case rel => exact ⟨F2, c2, gl, rfl, HROW6.out, HGL2.out, HBX6.out⟩
        · obtain ⟨n, hn⟩ : ∃ n, l6.length = n + 1 := ⟨l6.length - 1, by omega⟩
          obtain ⟨b6, o6, rfl, hb6l, hb6g, hcell⟩ := hi6 n (by omega)
          have hjn : j + (n + 1) ≤ BT.length := by omega
          have hm : n ≤ m5 := by omega
          have ht6 : l6.map (·.t) = (BT.drop j).take (n + 1) := by
            rw [hl6]
            have e : min (m5 + 1) (BT.drop j).length = n + 1 := by rw [List.length_drop]; omega
            rw [← e, ← List.take_eq_take_min]
          have hnx : BT.take (j + (n + 1)) = BT.take j ++ (BT.drop j).take (n + 1) := by rw [List.take_add]
          have hlast : (l6[n]'(by omega)).t.version = topB 7 (BT.take (j + (n + 1))) := by
            rw [topB_lastC 7 (BT.take (j + (n + 1))) (j + n) (by rw [List.length_take]; omega)]
            have e1 : l6[n]? = some (l6[n]'(by omega)) := List.getElem?_eq_getElem _
            have e2 : (l6.map (·.t))[n]? = some (l6[n]'(by omega)).t := by rw [List.getElem?_map, e1]; rfl
            rw [ht6, List.getElem?_take_of_lt (by omega), List.getElem?_drop] at e2
            have e3 : (BT.take (j + (n + 1)))[j + n]? = BT[j + n]? := List.getElem?_take_of_lt (by omega)
            rw [e2, List.getElem?_eq_getElem (by rw [List.length_take]; omega)] at e3
            injection e3 with e3
            rw [e3]
          have k1 := (hcell w6 rfl).2.1
          rw [hlast] at k1
          have HL6 := Lib.hid (And.intro hn hnx)
          have HT6 := Lib.hid ht6
          have HJN := Lib.hid (And.intro hjn hm)
          have HBG := Lib.hid (And.intro hb6l hb6g)
          have hz6 := HBX6.out.size
          obtain ⟨fr2, hf2⟩ : ∃ fr2, fr2 = topB 7 (BT.take (j + (n + 1))) := ⟨_, rfl⟩
          rw [← hf2] at k1
          have HF2 := Lib.hid hf2
          have hgl24 : gl.length ≤ 24 := by have h := congrArg List.length HGL.out; rw [List.length_map, List.length_take] at h; have := HBL.out; omega
          have hn24 : n < 24 := by have := HBL.out; omega
          have HRD6 := Lib.hid (show Rd encBt 4 w6 w6.heap.size (.slice (some ⟨b6, o6, none⟩) (n + 1) c6) l6 from by have h := hr6.row.rd; rw [hn] at h; exact h)
          rw [hn]
          clear hl6 hr6 hb6 hi6 hn6 hn0 hcell ht6 hnx hlast hf2 hn hjn hb6l hb6g HP
          go_wp2_with (at_builtin; go_must (refine wpList_addT rfl _ _ rfl x0.heap.size (.slice F2 gl.length c2) gl rfl HROW6.out.own w6.heap.size _ l6 rfl HRD6.out (by have := HL6.out.1; omega) hz6 ?_))
          rintro A' c' w7 HO7 HG7 HN7
          have HR7 := Lib.hid (HROW6.out.add HO7.out HG7.out HN7.out (fun i hi => Nat.lt_of_lt_of_le (HCX.out.low.2 i hi).2 HB6.out.size) (fun x hx => (HR6.out.parts x hx).mono (Nat.le_refl _) (fun b hb h => by
            rcases h with h | h
            · exact .inr h
            · exact .inl (Own.low HROW2.out.own h).2)))
          have HBX7 := Lib.hid (Own.grown HROW6.out.own HBX6.out HG7.out (Nat.le_refl _) hz6)
          have k7 : w7.cell? ⟨b6, o6 + n * 4 + 1, none⟩ = some (.int .i64 fr2) := by
            rw [World.cell?_of_block (w := w6) (HG7.out.block b6 HBG.out.1 (fun e => HBG.out.2 (.inl (Own.low HROW2.out.own e.symm).2)))]
            exact k1
          clear HO7 HG7 HN7 k1 HROW6 HBX6 HRD6 HR6 HB6 hz6 HBX HROW2
          go_wp2_with fail
          go_roundw
          case rel =>
            refine ⟨k + 1, j + (n + 1), A', c', gl ++ l6, by omega, by go_num, HJN.out.1, ?_, by rw [HF2.out], ?_, by rw [List.length_append]; exact HR7.out, ?_, HBX7.out⟩
            · have h1 := HKJ.out.2
              have h2 := HJN.out.1
              omega
            · rw [List.length_append]
            · rw [List.map_append, HGL.out, HT6.out, HL6.out.2]
          case measure => simp [intOf]; omega
  case rest =>
  obtain ⟨F2, c2, gl, rfl, hrw, hgl, hbx⟩ := hcut
  obtain ⟨y0, hy0⟩ : ∃ y, y = wc := ⟨_, rfl⟩
  rw [← hy0] at hrw hbx ⊢
  clear hy0
  obtain ⟨ct, hct⟩ : ∃ ct, ct = pop % (bs.length + 1) := ⟨_, rfl⟩
  have hct' : ct < bs.length + 1 := by rw [hct]; exact Nat.mod_lt _ (by omega)
  have hp1 : (pop : Int) % ((bs.length : Int) + 1) = (ct : Int) := by rw [hct]; simp
  have hp2 : bs.length = 0 → ct = 0 := fun h => by omega
  have HCY := Lib.hid (HCH.out.mv (Mv.of_new hbx (fun _ => False)) (fun _ _ h => h))
  have HRA := Lib.hid (HROW.out.new hbx)
  have HRG := Lib.hid hrw
  have HGL := Lib.hid hgl
  have HBY := Lib.hid (HBW.out.trans (hbx.mono HBW.out.size))
  clear hrw hgl hbx hct HCH HROW HBW HR1 HB1 hq1 hq2
  go_upto_if 149 with fail
  go_cut [23] (fun cv wx => cv = .int .i64 (ct : Int) ∧ wx = y0)
  case first =>
    by_cases hb0 : bs.length = 0
    · have hc0' := hp2 hb0
      subst hc0'
      have h1 : ¬ (0 : Int) < (bs.length : Int) := by omega
      clear hp1 hp2 hct' hbl24 hb0
      go_wp2_with fail
      go_meet
      case rel => exact ⟨rfl, rfl⟩
    · have h1 : (0 : Int) < (bs.length : Int) := by omega
      have HP1 := Lib.hid hp1
      clear hp1 hp2 hb0
      go_wp2_with fail
      go_meet
      case rel => exact ⟨by rw [HP1.out], rfl⟩
  case rest =>
  obtain ⟨rfl, hwc⟩ := hcut
  have hwc' := hwc.symm
  subst hwc'
  by_cases hc0 : ct = 0
  case neg =>
    obtain ⟨d, hd⟩ : ∃ d, ct = d + 1 := ⟨ct - 1, by omega⟩
    subst hd
    have hd24 : d < bs.length := by omega
    obtain ⟨gF, cF, hF, -, -, hcap⟩ : ∃ g cap, Value.slice F bs.length cf = .slice (some ⟨g, 0, none⟩) bs.length cap ∧ w4.heap.size ≤ g ∧ g < y0.heap.size ∧ bs.length ≤ cap := by
      rcases Own.form HRA.out.own with ⟨_, e0⟩ | h
      · rw [e0] at hd24; simp at hd24
      · exact h
    injection hF with hF1 _ hF3
    subst hF1 hF3
    have HCAP := Lib.hid hcap
    clear hcap
    obtain ⟨tv, htv⟩ : ∃ tv, tv = topB 7 (BT.take (d + 1)) := ⟨_, rfl⟩
    have hcell : ∀ W G', RowP W w4.heap.size G' (.slice (some ⟨gF, 0, none⟩) bs.length cf) bs → W.cell? ⟨gF, d * 4 + 1, none⟩ = some (.int .i64 tv) := fun W G' hW => by
      obtain ⟨A9, c9, e9, -, hi9⟩ := hW.bts.at
      injection e9 with e91 _ e93
      subst e91 e93
      obtain ⟨b9, o9, e9, -, -, hc9⟩ := hi9 d hd24
      injection e9 with e9
      injection e9 with e91 e92 _
      subst e91 e92
      have h := (hc9 W rfl).2.1
      simp only [Nat.zero_add] at h
      rw [h, htv, topB_lastC 7 (BT.take (d + 1)) d (by rw [List.length_take]; have := HBL.out; omega)]
      have e1 : (BT.take (d + 1))[d]? = BT[d]? := List.getElem?_take_of_lt (by omega)
      have e2 : BT[d]? = some (bs[d].t) := by rw [HBT.out, List.getElem?_map, List.getElem?_eq_getElem hd24]; rfl
      rw [e2, List.getElem?_eq_getElem (by rw [List.length_take]; have := HBL.out; omega)] at e1
      injection e1 with e1
      rw [e1]
    have hle := topB_take_le HCN.out (d + 1)
    rw [← htv, HTP.out] at hle
    have hda := Ch.drop_app (a := 7) (l := BT.take (d + 1)) (r := BT.drop (d + 1)) (by rw [List.take_append_drop]; exact HCN.out)
    rw [List.take_append_drop, ← htv] at hda
    have hpo2 := hpop_any w.heap.size q G6 _ 1 tv y0 (by decide) (by omega) (Ch.spare_mk _ _ _ _ _ (by omega)) HCY.out ⟨_, rfl, rfl⟩
    rw [show (⟨[chG bs], 0, 1 + 2 * i, 524288⟩ : Ch).pop 1 tv = (0, ⟨[⟨1, 7, topB 7 (BT.take (d + 1)), (chG bs).known, [], BT.drop (d + 1)⟩], 0, 1 + 2 * i + 1, 524288⟩) from by
      rw [show (1 : Int) = (chG bs).epoch from rfl, Ch.pop_one _ _ _ _ _ (by rw [chG_top HST.out]; exact hle.2), show (chG bs).held = BT from HBT.out.symm, hda.1]
      unfold Ch.lastGone
      rw [hda.2]
      rfl] at hpo2
    simp only at hpo2
    have HPO := Lib.hid hpo2
    have HTV := Lib.hid htv
    have HCL := Lib.hid hcell
    have k0 := hcell y0 G6 HRA.out
    have hdi : (0 : Int) < (d : Int) + 1 := by omega
    clear hpo2 hcell hle hda htv hp1 hp2 hct'
    go_wp2_with fail
    refine HPO.out.mono ?_
    rintro e y1 ⟨G7, rfl, hc7, hG7, hm7⟩
    have HRA7 := Lib.hid (HRA.out.moved hG7 hm7)
    have HRG7 := Lib.hid (HRG.out.moved hG7 hm7)
    have HBY7 := Lib.hid (HBY.out.trans (hm7.below HCY.out.low.1 (fun i hi => (HCY.out.low.2 i hi).1)))
    have hlk := hlock_any w.heap.size q G7 _ 2 1 y1 (by decide) (by decide) (Ch.spare_mk _ _ _ _ _ (by omega)) hc7 ⟨_, rfl, rfl⟩
    rw [show (⟨[⟨1, 7, topB 7 (BT.take (d + 1)), (chG bs).known, [], BT.drop (d + 1)⟩], 0, 1 + 2 * i + 1, 524288⟩ : Ch).lockd 2 1 = ((tv, (chG bs).known, BT.drop (d + 1), 0), ⟨[⟨1, 7, topB 7 (BT.take (d + 1)), (chG bs).known, [], BT.drop (d + 1)⟩], 2, 1 + 2 * i + 1 + 1, 524288⟩) from by
      rw [HTV.out]
      exact Ch.lock_one ⟨1, 7, topB 7 (BT.take (d + 1)), (chG bs).known, [], BT.drop (d + 1)⟩ 0 _ _ 2 (by decide)] at hlk
    simp only at hlk
    have HLK := Lib.hid hlk
    have HC7 := Lib.hid hc7
    clear hlk hc7 hG7 hm7 HPO HRA HRG HBY HCY k0
    go_wp2_with fail
    refine HLK.out.mono ?_
    rintro e y2 ⟨G8, v8, l8, rfl, hl8, hr8, hc8, hG8, hm8⟩
    have hra8 := HRA7.out.moved hG8 hm8
    have hrg8 := HRG7.out.moved hG8 hm8
    have HBY8 := Lib.hid (HBY7.out.trans (hm8.below HC7.out.low.1 (fun i hi => (HC7.out.low.2 i hi).1)))
    have k0 := HCL.out y2 G8 hra8
    have hgb : gl.map (·.t) = bs.map (·.t) := HGL.out.trans HBT.out
    have hone : ∀ x ∈ gl, x.t.chgs.length ≤ 1000 := fun x hx => by
      have h1 : x.t ∈ bs.map (·.t) := by rw [← hgb]; exact List.mem_map.2 ⟨x, hx, rfl⟩
      obtain ⟨y, hy, he⟩ := List.mem_map.1 h1
      rw [← he]
      exact HST.out.one y hy
    have HB1 := Lib.hid (rbatches_any gl bs _ _ y2 hrg8.rd hra8.rd hgb (by have h := congrArg List.length hgb; rw [List.length_map, List.length_map] at h; omega) hone)
    have HRA8 := Lib.hid hra8
    have HR8 := Lib.hid hr8
    have HL8 := Lib.hid hl8
    obtain ⟨A8, c8, rfl, -, -⟩ := hr8.at
    clear hl8 hr8 hc8 hG8 hm8 hra8 hrg8 hgb hone HLK HC7 HRA7 HRG7 HBY7
    go_wp2_with fail
    refine HB1.out.mono ?_
    rintro e y3 ⟨rfl, hb3⟩
    have HRA9 := Lib.hid (HRA8.out.new hb3)
    have HR9 := Lib.hid (HR8.out.next (G' := fun _ => False) hb3 (fun _ _ h => h.elim))
    have HBY9 := Lib.hid (HBY8.out.trans (hb3.mono HBY8.out.size))
    clear hb3 HB1 k0 HRA8 HR8 HBY8
    go_wp2_with fail
    all_goals
      refine (rbatches_any l8 (bs.drop (d + 1)) _ _ y3 HR9.out (RdBts.drop HRA9.out.rd (d + 1) _ (by omega) (by have := HCAP.out; omega) _ (fun hlt => ?x7)) (by rw [HL8.out, HBT.out, List.map_drop]) ?x8 ?x9).mono ?_
      case x7 => first | (exfalso; have := HCAP.out; omega) | (simp only [Option.map_some]; unfold Addr.add; split <;> simp_all)
      case x8 => have h := congrArg List.length HL8.out; rw [List.length_map, List.length_drop] at h; have := HBL.out; omega
      case x9 =>
        intro x hx
        have h1 : x.t ∈ bs.map (·.t) := by
          have h2 : x.t ∈ l8.map (·.t) := List.mem_map.2 ⟨x, hx, rfl⟩
          rw [HL8.out, HBT.out] at h2
          exact List.mem_of_mem_drop h2
        obtain ⟨y, hy, he⟩ := List.mem_map.1 h1
        rw [← he]
        exact HST.out.one y hy
      rintro e y4 ⟨rfl, hb4⟩
      have HB4 := Lib.hid (HBY9.out.trans (hb4.mono HBY9.out.size))
      clear hb4
      go_wp2_with fail
      go_ret
      exact ⟨rfl, HB4.out⟩
  case pos =>
    subst hc0
    have hlk := hlock_any w.heap.size q G6 _ 2 1 y0 (by decide) (by decide) (Ch.spare_mk _ _ _ _ _ (by omega)) HCY.out ⟨_, rfl, rfl⟩
    rw [show (⟨[chG bs], 0, 1 + 2 * i, 524288⟩ : Ch).lockd 2 1 = ((7, (chG bs).known, bs.map (·.t), 0), ⟨[chG bs], 2, 1 + 2 * i + 1, 524288⟩) from Ch.lock_one (chG bs) 0 _ _ 2 (by decide)] at hlk
    simp only at hlk
    have HLK := Lib.hid hlk
    clear hlk hp1 hp2 hct'
    go_wp2_with fail
    refine HLK.out.mono ?_
    rintro e y2 ⟨G8, v8, l8, rfl, hl8, hr8, hc8, hG8, hm8⟩
    have hra8 := HRA.out.moved hG8 hm8
    have hrg8 := HRG.out.moved hG8 hm8
    have HBY8 := Lib.hid (HBY.out.trans (hm8.below HCY.out.low.1 (fun i hi => (HCY.out.low.2 i hi).1)))
    have hgb : gl.map (·.t) = bs.map (·.t) := HGL.out.trans HBT.out
    have hone : ∀ x ∈ gl, x.t.chgs.length ≤ 1000 := fun x hx => by
      have h1 : x.t ∈ bs.map (·.t) := by rw [← hgb]; exact List.mem_map.2 ⟨x, hx, rfl⟩
      obtain ⟨y, hy, he⟩ := List.mem_map.1 h1
      rw [← he]
      exact HST.out.one y hy
    have HB1 := Lib.hid (rbatches_any gl bs _ _ y2 hrg8.rd hra8.rd hgb (by have h := congrArg List.length hgb; rw [List.length_map, List.length_map] at h; omega) hone)
    have HRA8 := Lib.hid hra8
    have HR8 := Lib.hid hr8
    have HL8 := Lib.hid hl8
    obtain ⟨A8, c8, rfl, -, -⟩ := hr8.at
    clear hl8 hr8 hc8 hG8 hm8 hra8 hrg8 hgb hone HLK HRA HRG HBY HCY
    go_wp2_with fail
    refine HB1.out.mono ?_
    rintro e y3 ⟨rfl, hb3⟩
    have HRA9 := Lib.hid (HRA8.out.new hb3)
    have HR9 := Lib.hid (HR8.out.next (G' := fun _ => False) hb3 (fun _ _ h => h.elim))
    have HBY9 := Lib.hid (HBY8.out.trans (hb3.mono HBY8.out.size))
    clear hb3 HB1 HRA8 HR8 HBY8
    go_wp2_with fail
    refine (rbatches_any l8 bs _ _ y3 HR9.out HRA9.out.rd HL8.out ?x8 ?x9).mono ?_
    case x8 => have h := congrArg List.length HL8.out; rw [List.length_map, List.length_map] at h; omega
    case x9 =>
      intro x hx
      have h1 : x.t ∈ bs.map (·.t) := by rw [← HL8.out]; exact List.mem_map.2 ⟨x, hx, rfl⟩
      obtain ⟨y, hy, he⟩ := List.mem_map.1 h1
      rw [← he]
      exact HST.out.one y hy
    rintro e y4 ⟨rfl, hb4⟩
    have HB4 := Lib.hid (HBY9.out.trans (hb4.mono HBY9.out.size))
    clear hb4
    go_wp2_with fail
    go_ret
    exact ⟨rfl, HB4.out⟩
end Go.Proofs.YtmigninibdecmaaGreat
