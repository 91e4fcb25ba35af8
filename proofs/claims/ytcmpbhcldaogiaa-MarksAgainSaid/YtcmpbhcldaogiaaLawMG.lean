/- MarksAgain's walk. -/
import Derived.Test.YtcmpbhcldaogiaaFah
namespace Go.Proofs.Ytcmpbhcldaogiaa
open Go.RowKit

theorem again_pure {ts : List Txn} {t : Txn} {more : Nat} (hs : soundT { t with read := 7 + (more : Int) }) (he : jerr (mnew 0) 7 ts = 0) (hm : more < 256) :
    jerr (jnext (mnew 0) 7 ts) (8 + (more : Int)) [{ t with read := 7 + (more : Int) }] = 0 ∧ jout (jnext (mnew 0) 7 ts) (8 + (more : Int)) [{ t with read := 7 + (more : Int) }] = [1] := by
  obtain ⟨h1, h2, h3⟩ := jnext_low (Mk.Ok.new (v := 0) (by omega)) he (by omega)
  have hf : (jnext (mnew 0) 7 ts).floor = 0 := h3
  have e1 := jerr_one (m := jnext (mnew 0) 7 ts) (v := 8 + (more : Int)) (by omega) (by omega) hs
  refine ⟨e1, ?_⟩
  rw [(jone e1).1, verd_fine (.inr (by simp only; omega)) (fun k => .inr (by have := (h1.f k).2; simp only; omega))]
set_option maxHeartbeats 16000000 in
set_option maxRecDepth 100000 in
theorem marksAgain_walk (ts : List TxV) (vv : Value) (t : Txn) (v1 v2 : Value) (more : Nat) (w : World) (hl : TxOk w vv ts) (ht : TxIn w t v1 v2) (hm : more < 256) :
    Calls Try.prog 5 #[vv, tval t v1 v2, .int .u8 (more : Int)] w fun e w' => e = .returned (.bool true) ∧ Below w.heap.size w w' := by
  obtain ⟨Av, cv, rfl, hcv, _⟩ := hl.rd.at
  obtain ⟨A1, c1, A2, c2, rfl, rfl⟩ := ht.slices
  have ht' := ht.again (r := 7 + (more : Int)) (by unfold I64; omega)
  have HT := Lib.hid ht'
  have HN := Lib.hid (mknew_any 0 (by unfold I64; omega) (w.alloc (.cells #[.int .i64 t.read, .slice A1 t.reads.length c1, .slice A2 t.chgs.length c2] 32)))
  have hG : Whole (w.alloc (.cells #[.int .i64 t.read, .slice A1 t.reads.length c1, .slice A2 t.chgs.length c2] 32)) w.heap.size 32 [.int .i64 t.read, .slice A1 t.reads.length c1, .slice A2 t.chgs.length c2] := Whole.fresh w _ [_, _, _]
  have hb0 : Below w.heap.size w (w.alloc (.cells #[.int .i64 t.read, .slice A1 t.reads.length c1, .slice A2 t.chgs.length c2] 32)) := (Below.refl _ w).alloc (Nat.le_refl _) _
  have hz0 : (w.alloc (.cells #[.int .i64 t.read, .slice A1 t.reads.length c1, .slice A2 t.chgs.length c2] 32)).heap.size = w.heap.size + 1 := by simp
  have HG := Lib.hid hG
  have HB0 := Lib.hid hb0
  have HZ0 := Lib.hid hz0
  have h7 : IntKind.i64.wrap (more : Int) = (more : Int) := by rw [IntKind.wrap_i64]; omega
  have h8 : IntKind.i64.wrap (7 + (more : Int)) = 7 + (more : Int) := by rw [IntKind.wrap_i64]; omega
  have h9 : IntKind.i64.wrap (8 + (more : Int)) = 8 + (more : Int) := by rw [IntKind.wrap_i64]; omega
  clear hG hb0 hz0 ht ht'
  unfold tval
  go_enter Try.func5, Try.ntmps5
  go_wp2_with fail
  refine HN.out.mono ?_
  rintro e w1 ⟨q, G, rfl, hk1, hb1⟩
  have HG1 := Lib.hid (HG.out.below hb1 HG.out.size)
  have HB1 := Lib.hid (HB0.out.trans (hb1.mono HB0.out.size))
  have HK1 := Lib.hid hk1
  clear hk1 hb1 HN
  by_cases hlen4 : 4 < ts.length
  · have HOK := Lib.hid (hl.take 4 (by omega))
    have hli : (4 : Int) < (ts.length : Int) := by omega
    have hcv4 : (4 : Int) ≤ (cv : Int) := by omega
    clear hl
    have hwm : Mv (fun i => i = w.heap.size) w1 (w1.setCell ⟨w.heap.size, 0, none⟩ (.int .i64 (7 + (more : Int)))) := (Mv.refl (fun i => i = w.heap.size) w1).setCell (p := ⟨w.heap.size, 0, none⟩) (fun _ => rfl) _
    have HKS := Lib.hid (HK1.out.mv hwm (fun i hi e => by have := (HK1.out.low.2 i hi).1; have := HZ0.out; omega))
    have HGS := Lib.hid (HG1.out.put 0 (.int .i64 (7 + (more : Int))))
    have HBS := Lib.hid (show Below w.heap.size w (w1.setCell ⟨w.heap.size, 0, none⟩ (.int .i64 (7 + (more : Int)))) from HB1.out.trans (hwm.below HB1.out.size (fun i e => by omega)))
    have k0 := HG1.out.cell 0 _ rfl
    have f0 := HG1.out.frozen 0
    have HA := Lib.hid (awake_any (w1.setCell ⟨w.heap.size, 0, none⟩ (.int .i64 (7 + (more : Int)))))
    clear hwm HG1 HB1 HK1
    go_wp2_with fail
    refine HA.out.mono ?_
    rintro e w2 ⟨rfl, hb2⟩
    have hzG : w.heap.size < (w1.setCell ⟨w.heap.size, 0, none⟩ (.int .i64 (7 + (more : Int)))).heap.size := HGS.out.size
    have HK2 := Lib.hid (HKS.out.new hb2)
    have HG2 := Lib.hid (HGS.out.below hb2 hzG)
    have HB2 := Lib.hid (HBS.out.trans (hb2.mono HBS.out.size))
    have HS := Lib.hid (HT.out.sound HB2.out)
    have g0 := HG2.out.cell 0 _ rfl
    have g1 := HG2.out.cell 1 _ rfl
    have g2 := HG2.out.cell 2 _ rfl
    unfold tval at HS
    clear hb2 hzG HKS HGS HBS HA k0 f0
    by_cases hs : soundT { t with read := 7 + (more : Int) }
    · have hsb := decide_eq_true hs
      have HSD := Lib.hid hs
      go_wp2_with fail
      refine HS.out.mono ?_
      rw [hsb]
      rintro e w3 ⟨rfl, hb3⟩
      have HK3 := Lib.hid (HK2.out.new hb3)
      have HG3 := Lib.hid (HG2.out.below hb3 HG2.out.size)
      have HB3 := Lib.hid (HB2.out.trans (hb3.mono HB2.out.size))
      have hGlow : ∀ i, G i → w.heap.size ≤ i := fun i hi => by have := (HK3.out.low.2 i hi).1; have := HZ0.out; omega
      have htx : RdTx w3 w3.heap.size G (.slice Av 4 cv) (ts.take 4) := (HOK.out.next HB3.out).mono HB3.out.size (fun b h1 h2 => by have := hGlow b h2; omega)
      have HJ := Lib.hid (mkjudge_any _ q 0 G (mnew 0) 7 (by unfold I64; omega) _ _ w3 HK3.out htx HOK.out.fit HOK.out.read (by omega))
      clear hb3 htx g0 g1 g2 HS HK2 HG2 HB2 hs
      go_wp2_with fail
      refine HJ.out.mono ?_
      rintro e w4 ⟨A4, cap4, rfl, G4, hk4, hG4, hm4, _⟩
      have hng : ¬ G w.heap.size := fun hi => by have := (HK3.out.low.2 _ hi).1; have := HZ0.out; omega
      have HG4 := Lib.hid (hm4.whole HG3.out hng)
      have HB4 := Lib.hid (HB3.out.trans (hm4.below HB3.out.size hGlow))
      have hG4low : ∀ i, G4 i → w.heap.size ≤ i ∧ i ≠ w.heap.size := fun i hi => by
        rcases hG4 i hi with h | h
        · exact ⟨hGlow i h, fun e => hng (e ▸ h)⟩
        · have := HB3.out.size; have := HG3.out.size; exact ⟨by omega, by omega⟩
      have HL4 := Lib.hid hG4low
      have HK4 := Lib.hid hk4
      obtain ⟨E, hE⟩ : ∃ E, jerr (mnew 0) 7 (((ts.take 4) : List TxV).map (·.t)) = E := ⟨_, rfl⟩
      rw [hE]
      by_cases he : E = 0
      · rw [he] at hE
        obtain ⟨hp1, hp2⟩ := again_pure HSD.out hE hm
        subst he
        obtain ⟨M, hM⟩ : ∃ M, jnext (mnew 0) 7 (((ts.take 4) : List TxV).map (·.t)) = M := ⟨_, rfl⟩
        rw [hM] at hp1 hp2 HK4
        have hnew : Whole (w4.alloc (.cells #[.int .i64 (7 + (more : Int)), .slice A1 t.reads.length c1, .slice A2 t.chgs.length c2] 32)) w4.heap.size 32 [.int .i64 (7 + (more : Int)), .slice A1 t.reads.length c1, .slice A2 t.chgs.length c2] := Whole.fresh w4 _ [_, _, _]
        have hb5 : Below w4.heap.size w4 (w4.alloc (.cells #[.int .i64 (7 + (more : Int)), .slice A1 t.reads.length c1, .slice A2 t.chgs.length c2] 32)) := (Below.refl _ w4).alloc (Nat.le_refl _) _
        have hb05 := HB4.out.trans (hb5.mono HB4.out.size)
        have hone := RdTx.one (x := ⟨{ t with read := 7 + (more : Int) }, .slice A1 t.reads.length c1, .slice A2 t.chgs.length c2⟩) hnew (HT.out.part hb05 (fun i hi => (HL4.out i hi).1)) (fun hi => by have := (HK4.out.low.2 _ hi).2; omega)
        have HJ2 := Lib.hid (mkjudge_any _ q _ G4 M (8 + (more : Int)) (by unfold I64; omega) _ _ _ (HK4.out.new hb5) hone (fun x hx => by rw [List.mem_singleton] at hx; subst hx; exact HT.out.fit) (fun x hx => by rw [List.mem_singleton] at hx; subst hx; exact HT.out.read) (by omega))
        simp only [List.map_cons, List.map_nil] at HJ2
        rw [hp1, hp2] at HJ2
        have HB5 := Lib.hid hb05
        have HK5 := Lib.hid (HK4.out.new hb5)
        have g0 := HG4.out.cell 0 _ rfl
        have g1 := HG4.out.cell 1 _ rfl
        have g2 := HG4.out.cell 2 _ rfl
        clear hE hp1 hp2 hM hnew hb5 hb05 hone hk4 hG4 hm4 hG4low hGlow hng HJ HK3 HB3 HK4 HB4 HG3 HSD
        go_wp2_with fail
        refine HJ2.out.mono ?_
        rintro e w6 ⟨A6, cap6, rfl, G6, hk6, hG6, hm6, hr6⟩
        have HB6 := Lib.hid (HB5.out.trans (hm6.below HB5.out.size (fun i hi => (HL4.out i hi).1)))
        obtain ⟨A', c', e, hc', hi⟩ := hr6.atI
        injection e with e1 _ e3
        subst e1 e3
        obtain ⟨b, o, rfl, hbb, _, r0⟩ := hi 0 (by decide)
        simp only [Nat.add_zero, List.getElem_cons_zero] at r0
        simp only [List.length_cons, List.length_nil, Nat.zero_add] at hc'
        clear hk6 hG6 hm6 hr6 hi HJ2 g0 g1 g2 HB5 HK5 HL4
        go_wp2_with fail
        go_ret
        exact ⟨rfl, HB6.out⟩
      · have heb : (E == 0) = false := by simpa using he
        clear hk4 hG4 hm4 hG4low hGlow hng HJ hE
        go_wp2_with fail
        go_ret
        exact ⟨rfl, HB4.out⟩
    · have hsb := decide_eq_false hs
      go_wp2_with fail
      refine HS.out.mono ?_
      rw [hsb]
      rintro e w3 ⟨rfl, hb3⟩
      have HB3 := Lib.hid (HB2.out.trans (hb3.mono HB2.out.size))
      have HA2 := Lib.hid (awake_any w3)
      clear hb3 g0 g1 g2 HS
      go_wp2_with fail
      refine HA2.out.mono ?_
      rintro e w4 ⟨rfl, hb4⟩
      have HB4 := Lib.hid (HB3.out.trans (hb4.mono HB3.out.size))
      go_wp2_with fail
      go_ret
      exact ⟨rfl, HB4.out⟩
  · have HOK := Lib.hid hl
    have hli : ¬ (4 : Int) < (ts.length : Int) := by omega
    clear hl
    have hwm : Mv (fun i => i = w.heap.size) w1 (w1.setCell ⟨w.heap.size, 0, none⟩ (.int .i64 (7 + (more : Int)))) := (Mv.refl (fun i => i = w.heap.size) w1).setCell (p := ⟨w.heap.size, 0, none⟩) (fun _ => rfl) _
    have HKS := Lib.hid (HK1.out.mv hwm (fun i hi e => by have := (HK1.out.low.2 i hi).1; have := HZ0.out; omega))
    have HGS := Lib.hid (HG1.out.put 0 (.int .i64 (7 + (more : Int))))
    have HBS := Lib.hid (show Below w.heap.size w (w1.setCell ⟨w.heap.size, 0, none⟩ (.int .i64 (7 + (more : Int)))) from HB1.out.trans (hwm.below HB1.out.size (fun i e => by omega)))
    have k0 := HG1.out.cell 0 _ rfl
    have f0 := HG1.out.frozen 0
    have HA := Lib.hid (awake_any (w1.setCell ⟨w.heap.size, 0, none⟩ (.int .i64 (7 + (more : Int)))))
    clear hwm HG1 HB1 HK1
    go_wp2_with fail
    refine HA.out.mono ?_
    rintro e w2 ⟨rfl, hb2⟩
    have hzG : w.heap.size < (w1.setCell ⟨w.heap.size, 0, none⟩ (.int .i64 (7 + (more : Int)))).heap.size := HGS.out.size
    have HK2 := Lib.hid (HKS.out.new hb2)
    have HG2 := Lib.hid (HGS.out.below hb2 hzG)
    have HB2 := Lib.hid (HBS.out.trans (hb2.mono HBS.out.size))
    have HS := Lib.hid (HT.out.sound HB2.out)
    have g0 := HG2.out.cell 0 _ rfl
    have g1 := HG2.out.cell 1 _ rfl
    have g2 := HG2.out.cell 2 _ rfl
    unfold tval at HS
    clear hb2 hzG HKS HGS HBS HA k0 f0
    by_cases hs : soundT { t with read := 7 + (more : Int) }
    · have hsb := decide_eq_true hs
      have HSD := Lib.hid hs
      go_wp2_with fail
      refine HS.out.mono ?_
      rw [hsb]
      rintro e w3 ⟨rfl, hb3⟩
      have HK3 := Lib.hid (HK2.out.new hb3)
      have HG3 := Lib.hid (HG2.out.below hb3 HG2.out.size)
      have HB3 := Lib.hid (HB2.out.trans (hb3.mono HB2.out.size))
      have hGlow : ∀ i, G i → w.heap.size ≤ i := fun i hi => by have := (HK3.out.low.2 i hi).1; have := HZ0.out; omega
      have htx : RdTx w3 w3.heap.size G (.slice Av ts.length cv) ts := (HOK.out.next HB3.out).mono HB3.out.size (fun b h1 h2 => by have := hGlow b h2; omega)
      have HJ := Lib.hid (mkjudge_any _ q 0 G (mnew 0) 7 (by unfold I64; omega) _ _ w3 HK3.out htx HOK.out.fit HOK.out.read (by omega))
      clear hb3 htx g0 g1 g2 HS HK2 HG2 HB2 hs
      go_wp2_with fail
      refine HJ.out.mono ?_
      rintro e w4 ⟨A4, cap4, rfl, G4, hk4, hG4, hm4, _⟩
      have hng : ¬ G w.heap.size := fun hi => by have := (HK3.out.low.2 _ hi).1; have := HZ0.out; omega
      have HG4 := Lib.hid (hm4.whole HG3.out hng)
      have HB4 := Lib.hid (HB3.out.trans (hm4.below HB3.out.size hGlow))
      have hG4low : ∀ i, G4 i → w.heap.size ≤ i ∧ i ≠ w.heap.size := fun i hi => by
        rcases hG4 i hi with h | h
        · exact ⟨hGlow i h, fun e => hng (e ▸ h)⟩
        · have := HB3.out.size; have := HG3.out.size; exact ⟨by omega, by omega⟩
      have HL4 := Lib.hid hG4low
      have HK4 := Lib.hid hk4
      obtain ⟨E, hE⟩ : ∃ E, jerr (mnew 0) 7 ((ts : List TxV).map (·.t)) = E := ⟨_, rfl⟩
      rw [hE]
      by_cases he : E = 0
      · rw [he] at hE
        obtain ⟨hp1, hp2⟩ := again_pure HSD.out hE hm
        subst he
        obtain ⟨M, hM⟩ : ∃ M, jnext (mnew 0) 7 ((ts : List TxV).map (·.t)) = M := ⟨_, rfl⟩
        rw [hM] at hp1 hp2 HK4
        have hnew : Whole (w4.alloc (.cells #[.int .i64 (7 + (more : Int)), .slice A1 t.reads.length c1, .slice A2 t.chgs.length c2] 32)) w4.heap.size 32 [.int .i64 (7 + (more : Int)), .slice A1 t.reads.length c1, .slice A2 t.chgs.length c2] := Whole.fresh w4 _ [_, _, _]
        have hb5 : Below w4.heap.size w4 (w4.alloc (.cells #[.int .i64 (7 + (more : Int)), .slice A1 t.reads.length c1, .slice A2 t.chgs.length c2] 32)) := (Below.refl _ w4).alloc (Nat.le_refl _) _
        have hb05 := HB4.out.trans (hb5.mono HB4.out.size)
        have hone := RdTx.one (x := ⟨{ t with read := 7 + (more : Int) }, .slice A1 t.reads.length c1, .slice A2 t.chgs.length c2⟩) hnew (HT.out.part hb05 (fun i hi => (HL4.out i hi).1)) (fun hi => by have := (HK4.out.low.2 _ hi).2; omega)
        have HJ2 := Lib.hid (mkjudge_any _ q _ G4 M (8 + (more : Int)) (by unfold I64; omega) _ _ _ (HK4.out.new hb5) hone (fun x hx => by rw [List.mem_singleton] at hx; subst hx; exact HT.out.fit) (fun x hx => by rw [List.mem_singleton] at hx; subst hx; exact HT.out.read) (by omega))
        simp only [List.map_cons, List.map_nil] at HJ2
        rw [hp1, hp2] at HJ2
        have HB5 := Lib.hid hb05
        have HK5 := Lib.hid (HK4.out.new hb5)
        have g0 := HG4.out.cell 0 _ rfl
        have g1 := HG4.out.cell 1 _ rfl
        have g2 := HG4.out.cell 2 _ rfl
        clear hE hp1 hp2 hM hnew hb5 hb05 hone hk4 hG4 hm4 hG4low hGlow hng HJ HK3 HB3 HK4 HB4 HG3 HSD
        go_wp2_with fail
        refine HJ2.out.mono ?_
        rintro e w6 ⟨A6, cap6, rfl, G6, hk6, hG6, hm6, hr6⟩
        have HB6 := Lib.hid (HB5.out.trans (hm6.below HB5.out.size (fun i hi => (HL4.out i hi).1)))
        obtain ⟨A', c', e, hc', hi⟩ := hr6.atI
        injection e with e1 _ e3
        subst e1 e3
        obtain ⟨b, o, rfl, hbb, _, r0⟩ := hi 0 (by decide)
        simp only [Nat.add_zero, List.getElem_cons_zero] at r0
        simp only [List.length_cons, List.length_nil, Nat.zero_add] at hc'
        clear hk6 hG6 hm6 hr6 hi HJ2 g0 g1 g2 HB5 HK5 HL4
        go_wp2_with fail
        go_ret
        exact ⟨rfl, HB6.out⟩
      · have heb : (E == 0) = false := by simpa using he
        clear hk4 hG4 hm4 hG4low hGlow hng HJ hE
        go_wp2_with fail
        go_ret
        exact ⟨rfl, HB4.out⟩
    · have hsb := decide_eq_false hs
      go_wp2_with fail
      refine HS.out.mono ?_
      rw [hsb]
      rintro e w3 ⟨rfl, hb3⟩
      have HB3 := Lib.hid (HB2.out.trans (hb3.mono HB2.out.size))
      have HA2 := Lib.hid (awake_any w3)
      clear hb3 g0 g1 g2 HS
      go_wp2_with fail
      refine HA2.out.mono ?_
      rintro e w4 ⟨rfl, hb4⟩
      have HB4 := Lib.hid (HB3.out.trans (hb4.mono HB3.out.size))
      go_wp2_with fail
      go_ret
      exact ⟨rfl, HB4.out⟩
end Go.Proofs.Ytcmpbhcldaogiaa
