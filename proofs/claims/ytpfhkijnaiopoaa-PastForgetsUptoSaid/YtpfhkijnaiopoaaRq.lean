/- The reference's Past: Forget, Back. -/
import Derived.Test.YtpfhkijnaiopoaaRp
import Derived.Test.YtpfhkijnaiopoaaGenN
namespace Go.Proofs.Ytpfhkijnaiopoaa
open Go.RowKit

section
variable {w w1 w' : World} {base r : Nat} {ov ov' : Option Nat} {E : Nat → Prop} {p : Pa}
/-- one of the two versions is another one -/
theorem RpAt.put1 (h : RpAt w base r ov E p) (v : Int) : RpWent w (w.setCell ⟨r, 1, none⟩ (.int .i64 v)) base r ov E { p with first := v } ov := by
  obtain ⟨A, cap, rs, hb, ho, hv, hl, hp⟩ := h.blk
  have hm : Mv (fun i => i = r) w (w.setCell ⟨r, 1, none⟩ (.int .i64 v)) := (Mv.refl (fun i => i = r) w).setCell (p := ⟨r, 1, none⟩) (fun _ => rfl) _
  refine ⟨⟨⟨A, cap, rs, hb.put 1 _, Own.put ho hb (by decide) 1 _, hv, hl, fun x hx => ((hp x hx).mv hm (Nat.le_refl _) fun b _ hd => .inr (.inl hd)).mono hm.size fun _ _ h => h⟩, ⟨h.low.1, Nat.le_trans h.low.2 hm.size⟩⟩, hm.mono fun _ _ h => .inl h, fun _ h => .inl h⟩
theorem RpAt.put2 (h : RpAt w base r ov E p) (v : Int) : RpWent w (w.setCell ⟨r, 2, none⟩ (.int .i64 v)) base r ov E { p with last := v } ov := by
  obtain ⟨A, cap, rs, hb, ho, hv, hl, hp⟩ := h.blk
  have hm : Mv (fun i => i = r) w (w.setCell ⟨r, 2, none⟩ (.int .i64 v)) := (Mv.refl (fun i => i = r) w).setCell (p := ⟨r, 2, none⟩) (fun _ => rfl) _
  refine ⟨⟨⟨A, cap, rs, hb.put 2 _, Own.put ho hb (by decide) 2 _, hv, hl, fun x hx => ((hp x hx).mv hm (Nat.le_refl _) fun b _ hd => .inr (.inl hd)).mono hm.size fun _ _ h => h⟩, ⟨h.low.1, Nat.le_trans h.low.2 hm.size⟩⟩, hm.mono fun _ _ h => .inl h, fun _ h => .inl h⟩
/-- other layers: their row is the old one or a new one -/
theorem RpAt.relist {A : Option Addr} {n cap : Nat} {rs : List PRow} {l' : List (Int × Prs)} (h : RpAt w base r ov E p) (hm : Mv (fun i => some i = ov ∨ w.heap.size ≤ i) w w1) (hn : n = rs.length) (ho : OwnPR w1 base (.slice A n cap) rs) (hl : rs.map PRow.kv = l')
    (hnew : ∀ g, Value.ownBlock (.slice A n cap) = some g → ov = some g ∨ w.heap.size ≤ g)
    (hp : ∀ x ∈ rs, RdPG w1 w1.heap.size (fun i => E i ∨ i = r ∨ some i = ov ∨ some i = Value.ownBlock (.slice A n cap)) x.v x.ps) :
    RpWent w (w1.setCell ⟨r, 0, none⟩ (.slice A n cap)) base r ov E { p with l := l' } (Value.ownBlock (.slice A n cap)) := by
  subst hn hl
  have hs := h.size
  obtain ⟨A0, cap0, rs0, hb, ho0, hv, _, _⟩ := h.blk
  have hb1 : Whole w1 r 49 _ := hm.whole hb (by
    rintro (e | e)
    · exact ho0.apart hb (by decide) (e.trans hv.symm)
    · omega)
  have hm2 : Mv (fun i => i = r) w1 (w1.setCell ⟨r, 0, none⟩ (.slice A rs.length cap)) := (Mv.refl (fun i => i = r) w1).setCell (p := ⟨r, 0, none⟩) (fun _ => rfl) _
  refine ⟨⟨⟨A, cap, rs, hb1.put 0 _, Own.put ho hb1 (by decide) 0 _, rfl, rfl, fun x hx => ?_⟩, ⟨h.low.1, Nat.le_trans h.low.2 (Nat.le_trans hm.size hm2.size)⟩⟩, ?_, hnew⟩
  · exact ((hp x hx).mv hm2 (Nat.le_refl _) fun b _ hd => .inr (.inl hd)).mono hm2.size fun b _ hg => by
      rcases hg with hg | hg | hg
      · exact .inl hg
      · exact .inr (.inl hg)
      · exact .inr (.inr (.inr hg))
  · exact (hm.mono (D' := RpD r ov) fun i hi hd => by
      rcases hd with hd | hd
      · exact .inr hd
      · omega).trans hm2 fun _ _ h => .inl h
theorem RpWent.then {w2 : World} {ov2 : Option Nat} {p1 p2 : Pa} (h : RpWent w w1 base r ov E p1 ov') (h2 : RpWent w1 w2 base r ov' E p2 ov2) : RpWent w w2 base r ov E p2 ov2 :=
  ⟨h2.now, h.moved.trans h2.moved fun i hi hd => by
    rcases hd with hd | hd
    · exact .inl hd
    · rcases h.new i hd.symm with k | k
      · exact .inr k.symm
      · omega, fun g hg => by
    rcases h2.new g hg with k | k
    · exact h.new g k
    · exact .inr (Nat.le_trans h.moved.size k)⟩
end
section
variable {ops : Array Oper} {rest : List Oper} {o : Oper} {a : Act} {Q : Exit → Act → World → Prop} {w : World}
set_option maxRecDepth 100000 in
theorem wpList_addPR (hgd : Region.wanted o (yielded ops a.tmps) = true) (s x : Operand)
    (ho : o.op = .call { callee := .builtin .append, args := #[s, x], argTypes := #[47, 47] })
    (base : Nat) (v : Value) (l : List PRow) (hs : a.eval s = v) (hown : OwnPR w base v l) (B : Nat) (v2 : Value) (p : List PRow) (hx : a.eval x = v2) (hp : Rd encPR 2 w B v2 p)
    (hlen : l.length + p.length ≤ 5000000000000) (hbase : base ≤ w.heap.size)
    (h : ∀ A' c' w', Hid (OwnPR w' base (.slice A' (l ++ p).length c') (l ++ p)) → Hid (w.grownBy w' v.ownBlock) → Hid (NewRow w v.ownBlock (Value.ownBlock (.slice A' (l ++ p).length c'))) → wpList Try.prog ops Q rest (a.put o.dst (.slice A' (l ++ p).length c')) w') : wpList Try.prog ops Q (o :: rest) a w := by
  obtain ⟨i0, hi, hz0, hz1, hz2⟩ := info_parts info_layer
  refine BigFrame.wpList_want hgd fun K hK => ?_
  refine wp_addAnyN (enc := encPR) (k := 2) 47 69 32 i0 _ Try.underlying47 hi hz0 hz1 hz2 rfl (by decide) encPR_len encPR_one s x ho base v l hs hown B v2 p hx hp (by unfold maxLen; omega) (by omega) hbase fun A' c' w' h1 h2 h3 => ?_
  exact hK _ _ (h A' c' w' (Lib.hid h1) (Lib.hid h2) (Lib.hid h3))
end
set_option maxRecDepth 100000 in
theorem RdPR.one (w : World) (x : PRow) : Rd encPR 2 (w.alloc (.cells #[.int .i64 x.ver, x.v] 69)) (w.heap.size + 1) (.slice (some ⟨w.heap.size, 0, none⟩) 1 1) [x] := by
  have hW : Whole (w.alloc (.cells #[.int .i64 x.ver, x.v] 69)) w.heap.size 69 [.int .i64 x.ver, x.v] := Whole.fresh w _ [_, _]
  refine ⟨_, 1, rfl, Nat.le_refl _, fun i hi => ⟨w.heap.size, 0, rfl, Nat.lt_succ_self _, fun j u hu => ?_⟩⟩
  obtain rfl : i = 0 := by simp at hi; omega
  have h1 := hW.cell j u
  simp only [encPR, List.getElem_cons_zero] at hu
  simpa using h1 hu

set_option maxHeartbeats 4000000 in
set_option maxRecDepth 100000 in
theorem rforget_any (base r : Nat) (ov : Option Nat) (E : Nat → Prop) (p : Pa) (v : Int) (w : World) (h : RpAt w base r ov E p) :
    Calls Try.prog 22 #[.pointer (some ⟨r, 0, none⟩), .int .i64 v] w fun e w' => e = .returned (.int .i64 (p.forget v).1) ∧ RpWent w w' base r ov E (p.forget v).2 ov := by
  obtain ⟨R, hR⟩ : ∃ R, R = p.forget v := ⟨_, rfl⟩
  rw [← hR]
  unfold Pa.forget at hR
  obtain ⟨A, cap, rs, hb, _⟩ := h.blk
  have c1 := hb.cell 1 _ rfl
  have c2 := hb.cell 2 _ rfl
  have f1 := hb.frozen 1
  have H := Lib.hid h
  clear hb h
  by_cases h1 : p.last < v
  · rw [if_pos h1] at hR
    have HR := Lib.hid hR
    clear hR
    go_enter Try.func22, Try.ntmps22
    go_wp2_with fail
    go_ret
    rw [HR.out]
    exact ⟨rfl, RpWent.of H.out (Below.refl _ _)⟩
  rw [if_neg h1] at hR
  by_cases h2 : p.first < v
  · rw [if_pos h2] at hR
    have HR := Lib.hid hR
    clear hR
    go_enter Try.func22, Try.ntmps22
    go_wp2_with fail
    go_ret
    rw [HR.out]
    exact ⟨rfl, H.out.put1 v⟩
  rw [if_neg h2] at hR
  have HR := Lib.hid hR
  clear hR
  go_enter Try.func22, Try.ntmps22
  go_wp2_with fail
  go_ret
  rw [HR.out]
  exact ⟨rfl, RpWent.of H.out (Below.refl _ _)⟩

theorem filter_take {α : Type} (q : α → Bool) (l : List α) (i : Nat) (h : i < l.length) : (l.take (i + 1)).filter q = (l.take i).filter q ++ (if q l[i] then [l[i]] else []) := by
  rw [List.take_add_one, List.getElem?_eq_getElem h, Option.toList_some, List.filter_append]
  cases hq : q l[i] <;> simp [hq]

set_option maxHeartbeats 8000000 in
set_option maxRecDepth 100000 in
theorem rback_any (base r : Nat) (ov : Option Nat) (E : Nat → Prop) (p : Pa) (v : Int) (w : World) (h : RpAt w base r ov E p) (hE : ∀ i, E i → i < w.heap.size) (hlen : p.l.length ≤ 1000000) :
    Calls Try.prog 24 #[.pointer (some ⟨r, 0, none⟩), .int .i64 v] w fun e w' => e = .returned (.int .i64 (p.back v).1) ∧ ∃ ov', RpWent w w' base r ov E (p.back v).2 ov' := by
  obtain ⟨R, hR⟩ : ∃ R, R = p.back v := ⟨_, rfl⟩
  rw [← hR]
  unfold Pa.back at hR
  have HKN := Lib.hid (rknown_any base r ov E p v w h)
  have H := Lib.hid h
  obtain ⟨A, cap, rs, hb, hl, hmx, hc, hp, hcell⟩ := h.layer
  have hll : rs.length ≤ 1000000 := by rw [← hl, List.length_map] at hlen; exact hlen
  have c0 := hb.cell 0 _ rfl
  have HB := Lib.hid hb
  have HP := Lib.hid hp
  have HL := Lib.hid hl
  have HCELL := Lib.hid hcell
  have HE := Lib.hid hE
  have hr := hb.size
  clear hb hp hcell h hl hlen hE
  obtain ⟨kn, hkn⟩ : ∃ kn, kn = p.known v := ⟨_, rfl⟩
  rw [← hkn] at hR HKN
  by_cases hk : kn = 0
  · rw [if_neg (by simpa using hk)] at hR
    have HR := Lib.hid hR
    subst hk
    clear hR hkn
    have hw0 : Below w.heap.size w (w.alloc (.cells #[] 69)) := (Below.refl _ w).alloc (Nat.le_refl _) _
    have HW0 := Lib.hid hw0
    have HEM := Lib.hid (Own.empty (enc := encPR) (k := 2) (e := 69) w w.heap.size (Nat.le_refl _))
    clear hw0
    go_enter Try.func24, Try.ntmps24
    go_wp2_with fail
    refine HKN.out.mono ?_
    rintro e w1 ⟨rfl, hw1⟩
    subst hw1
    go_wp2_with fail
    generalize w1.alloc (.cells #[] 69) = w0 at HW0 HEM ⊢
    go_loopw [6, 7] (fun ov' iv wr => ∃ (i : Nat) (A' : Option Addr) (c' : Nat), i ≤ rs.length ∧ iv = .int .i64 (i : Int) ∧ ov' = .slice A' ((rs.take i).filter (fun x => decide (x.ver ≤ v))).length c' ∧ OwnPR wr w1.heap.size (.slice A' ((rs.take i).filter (fun x => decide (x.ver ≤ v))).length c') ((rs.take i).filter (fun x => decide (x.ver ≤ v))) ∧ Below w1.heap.size w1 wr) (fun _ iv _ => rs.length - (intOf iv).toNat)
    case atStart => exact ⟨0, _, _, Nat.zero_le _, rfl, rfl, HEM.out, HW0.out⟩
    case round =>
      obtain ⟨i, A', c', hi, rfl, rfl, ho, hbw⟩ := hrel
      have HO := Lib.hid ho
      have HBW := Lib.hid hbw
      have hz := hbw.size
      have c0 := (HB.out.below hbw hr).cell 0 _ rfl
      have h0 : (0 : Int) ≤ (i : Int) := by omega
      clear ho hbw
      by_cases hil : i < rs.length
      · have h1 : (i : Int) < (rs.length : Int) := by omega
        have h2 : IntKind.i64.wrap ((i : Int) + 1) = ((i + 1 : Nat) : Int) := by rw [IntKind.wrap_i64]; omega
        obtain ⟨g, rfl, hg, y0, y1⟩ := HCELL.out i hil
        have q0 := (HBW.out.cell (p := ⟨g, i * 2, none⟩) hg).trans y0
        have q1 := (HBW.out.cell (p := ⟨g, i * 2 + 1, none⟩) hg).trans y1
        have HT := Lib.hid (filter_take (fun x : PRow => decide (x.ver ≤ v)) rs i hil)
        have hlt : ((rs.take i).filter (fun x => decide (x.ver ≤ v))).length ≤ i := by
          have := List.length_filter_le (fun x : PRow => decide (x.ver ≤ v)) (rs.take i); rw [List.length_take] at this; omega
        generalize (rs.take i).filter (fun x => decide (x.ver ≤ v)) = K at HO HT hlt ⊢
        generalize rs[i] = x at q0 q1 HT
        clear y0 y1
        have HLT := Lib.hid hlt
        clear hlt
        by_cases hx : x.ver ≤ v
        · have ht := HT.out
          simp only [hx, decide_true, if_true] at ht
          have HT2 := Lib.hid ht
          have HRX := Lib.hid (RdPR.one wr x)
          have HOA := Lib.hid (HO.out.alloc (.cells #[.int .i64 x.ver, x.v] 69))
          have HZA := Lib.hid (show w1.heap.size ≤ (wr.alloc (.cells #[.int .i64 x.ver, x.v] 69)).heap.size by simp; omega)
          clear ht HT
          go_wp2_with (at_builtin; refine wpList_addPR rfl _ _ rfl w1.heap.size (.slice A' K.length c') K rfl HOA.out (wr.heap.size + 1) (.slice (some ⟨wr.heap.size, 0, none⟩) 1 1) [x] rfl HRX.out (by have := HLT.out; simp only [List.length_cons, List.length_nil]; omega) HZA.out ?_)
          intro A4 c4 w4 ho4 hg4 hn4
          have HO5 := ho4
          have HB4 := Lib.hid (show Below w1.heap.size w1 w4 from HOA.out.grown (HBW.out.alloc hz _) hg4.out (Nat.le_refl _) HZA.out)
          clear ho4 hg4 hn4
          go_wp2_with fail
          go_roundw
          case rel => exact ⟨i + 1, A4, c4, by omega, by go_num, by rw [HT2.out]; simp, by rw [HT2.out]; simpa using HO5.out, HB4.out⟩
          case measure => simp [intOf]; omega
        · have ht := HT.out
          simp only [hx, decide_false, Bool.false_eq_true, if_false, List.append_nil] at ht
          have HT2 := Lib.hid ht
          clear ht HT
          go_wp2_with fail
          go_roundw
          case rel => exact ⟨i + 1, A', c', by omega, by go_num, by rw [HT2.out], by rw [HT2.out]; exact HO.out, HBW.out⟩
          case measure => simp [intOf]; omega
      · obtain rfl : i = rs.length := by omega
        have ho := HO.out
        rw [List.take_length] at ho ⊢
        obtain ⟨K, hK⟩ : ∃ K, K = rs.filter (fun x => decide (x.ver ≤ v)) := ⟨_, rfl⟩
        rw [← hK] at ho ⊢
        have HK := Lib.hid hK
        have HO2 := Lib.hid ho
        have hbb := HB.out.below HBW.out hr
        have q0f := hbb.frozen 0
        have q2 := hbb.cell 2 _ rfl
        have q2f := hbb.frozen 2
        have h1 : ¬ ((rs.length : Int) < (rs.length : Int)) := by omega
        clear hK ho HO hbb
        go_wp2_with fail
        go_ret
        rw [HR.out]
        have hw := H.out.relist (l' := p.l.filter fun x => decide (x.1 ≤ v)) ((Mv.of_below HBW.out).mono fun i _ h => .inr h) (show K.length = K.length from rfl) (HO2.out.lower H.out.low.2) (by rw [HK.out, ← HL.out, List.filter_map]; rfl) (fun g hg => .inr (HO2.out.low hg).1) fun x hx => by
          have hx2 : x ∈ rs := by rw [HK.out] at hx; exact (List.mem_filter.1 hx).1
          exact ((HP.out x hx2).mv (Mv.of_new HBW.out (fun _ => False)) (Nat.le_refl _) fun _ _ h => h.elim).mono HBW.out.size fun b hb hg => by
            rcases hg with hg | hg | hg | hg
            · exact .inl hg
            · exact .inr (.inl hg)
            · exact .inr (.inr hg)
            · have := (HO2.out.low hg.symm).1; omega
        exact ⟨rfl, _, hw.then (RpAt.put2 hw.now v)⟩
  · rw [if_pos (by simpa using hk)] at hR
    have HR := Lib.hid hR
    clear hR hkn
    go_enter Try.func24, Try.ntmps24
    go_wp2_with fail
    refine HKN.out.mono ?_
    rintro e w1 ⟨rfl, hw1⟩
    subst hw1
    go_wp2_with fail
    go_ret
    rw [HR.out]
    exact ⟨rfl, ov, RpWent.of H.out (Below.refl _ _)⟩
end Go.Proofs.Ytpfhkijnaiopoaa
