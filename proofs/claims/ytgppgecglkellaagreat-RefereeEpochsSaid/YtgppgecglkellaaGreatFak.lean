/- The program's write: one span is written. The bits of numbers as plain arithmetic. -/
import Derived.Test.YtgppgecglkellaaGreatFah
import Derived.Test.YtgppgecglkellaaGreatFai
import Derived.Test.YtgppgecglkellaaGreatFaj
import Derived.Deep.CutBlock
import Derived.Deep.DeepCutAuto
import Derived.Deep.Cut
import Derived.Deep.CutRange
import Derived.Lib.EndianBits
namespace Go.Proofs.YtgppgecglkellaaGreat
open Go.RowKit
attribute [local go_sem] less_eq same_eq le_eq ge_eq gt_eq

theorem without_len {y x : K × K} {W : List (K × K)} (h : Fits W (fun k => has y k ∧ ¬ has x k)) (hx : x.1 < x.2) : W.length ≤ 2 := by
  refine fits_len (l := [(y.1, mn y.2 x.1), (mx y.1 x.2, y.2)]) ⟨h.1, fun k => (h.2 k).trans ?_⟩
  show (has y k ∧ ¬ has x k) ↔ mem [(y.1, mn y.2 x.1), (mx y.1 x.2, y.2)] k
  rw [mem_cons, mem_cons]
  have hn := mem_nil k
  unfold has
  rcases mn_cases y.2 x.1 with ⟨e1, e2⟩ | ⟨e1, e2⟩ <;> rcases mx_cases y.1 x.2 with ⟨e3, e4⟩ | ⟨e3, e4⟩ <;> simp only [e2, e4] <;> constructor <;> intro h5 <;> grind
theorem Own.setOtherK {α : Type} {enc : α → List Value} {k : Nat} {e : TypeId} {w : World} {base : Nat} {v : Value} {l : List α} (h : Own enc k e w base v l) {g : Nat} (hg : g < base) (j : Nat) (u : Value) : Own enc k e (w.setCell ⟨g, j, none⟩ u) base v l :=
  ownsRow_setCell_other h (a := ⟨g, j, none⟩) (fun e => by have := (h.low (i := g) e).1; omega) u
set_option maxRecDepth 100000 in
theorem RdMk.one (w : World) (x : Wr) : RdW (w.alloc (.cells #[.string x.s.1, .string x.s.2, .int .i64 x.v] 77)) (w.heap.size + 1) (.slice (some ⟨w.heap.size, 0, none⟩) 1 1) [x] := by
  have hW : Whole (w.alloc (.cells #[.string x.s.1, .string x.s.2, .int .i64 x.v] 77)) w.heap.size 77 [.string x.s.1, .string x.s.2, .int .i64 x.v] := Whole.fresh w _ [_, _, _]
  refine ⟨_, 1, rfl, Nat.le_refl _, fun i hi => ⟨w.heap.size, 0, rfl, Nat.lt_succ_self _, fun j u hu => ?_⟩⟩
  obtain rfl : i = 0 := by simp at hi; omega
  have h1 := hW.cell j u
  simp only [encW, List.getElem_cons_zero] at hu
  simpa using h1 hu
theorem RdS.oneS (w : World) (s : K × K) : RdS (w.alloc (.cells #[.string s.1, .string s.2] 52)) (w.alloc (.cells #[.string s.1, .string s.2] 52)).heap.size (.slice (some ⟨w.heap.size, 0, none⟩) 1 1) [s] := by
  have hW : Whole (w.alloc (.cells #[.string s.1, .string s.2] 52)) w.heap.size 52 [.string s.1, .string s.2] := Whole.fresh w _ [_, _]
  refine ⟨_, 1, rfl, Nat.le_refl _, fun i x hi => ⟨w.heap.size, 0, rfl, by simp, ?_, ?_⟩⟩
  · cases i with
    | zero => simp at hi; subst hi; exact hW.cell 0 _ rfl
    | succ i => simp at hi
  · cases i with
    | zero => simp at hi; subst hi; exact hW.cell 1 _ rfl
    | succ i => simp at hi
section
variable {ops : Array Oper} {rest : List Oper} {o : Oper} {a : Act} {Q : Exit → Act → World → Prop} {w : World}
set_option maxRecDepth 100000 in
theorem wpList_addK (hgd : Region.wanted o (yielded ops a.tmps) = true) (s x : Operand)
    (ho : o.op = .call { callee := .builtin .append, args := #[s, x], argTypes := #[68, 68] })
    (base : Nat) (v : Value) (l : List Wr) (hs : a.eval s = v) (hown : OwnMk w base v l) (B : Nat) (v2 : Value) (p : List Wr) (hx : a.eval x = v2) (hp : RdW w B v2 p)
    (hlen : l.length + p.length ≤ 1000000) (hbase : base ≤ w.heap.size)
    (h : ∀ A' c' w', Hid (OwnMk w' base (.slice A' (l ++ p).length c') (l ++ p)) → Hid (w.grownBy w' v.ownBlock) → Hid (NewRow w v.ownBlock (Value.ownBlock (.slice A' (l ++ p).length c'))) → wpList Tryz.prog ops Q rest (a.put o.dst (.slice A' (l ++ p).length c')) w') : wpList Tryz.prog ops Q (o :: rest) a w := by
  obtain ⟨i0, hi, hz0, hz1, hz2⟩ := info_mkE
  refine BigFrame.wpList_want hgd fun K hK => ?_
  exact wp_addAnyN (enc := encW) (k := 3) 68 77 40 i0 _ Tryz.underlying68 hi hz0 hz1 hz2 rfl (by decide) encW_len encW_one s x ho base v l hs hown B v2 p hx hp (by unfold maxLen; omega) (by omega) hbase fun A' c' w' h1 h2 h3 => hK _ _ (h A' c' w' (Lib.hid h1) (Lib.hid h2) (Lib.hid h3))
end
theorem OwnMk.src {w : World} {base : Nat} {v vp : Value} {p : List Wr} (h : OwnMk w base vp p) (hp : p ≠ []) (hv : ∀ g, v.ownBlock = some g → g < base) : SrcK w v p vp := by
  rcases h.row with ⟨_, h0⟩ | ⟨g, cap, cur, rfl, hb, hW, h1, _, _, h4⟩
  · exact absurd h0 hp
  · exact ⟨g, cap, cur, rfl, h1, hW, h4, fun e => by have := hv g e.symm; omega⟩

set_option maxHeartbeats 16000000 in
set_option maxRecDepth 100000 in
theorem write_any (base q : Nat) (ov : Option Nat) (floor : Int) (L : List Wr) (f : K → Int) (b : Int) (s : K × K) (v : Int) (w : World) (h : PmL w base q ov floor L) (hrep : Rep f b L) (hs : s.1 < s.2) (hbv : b < v) (hl : L.length ≤ 100000) :
    Calls Tryz.prog 34 #[.pointer (some ⟨q, 0, none⟩), .agg #[.string s.1, .string s.2, .int .i64 v]] w fun e w' => e = .returned (.tuple #[]) ∧ ∃ ov' L', PmW w w' base q ov floor L' ov' ∧ Rep (fun k => if has s k then v else f k) b L' := by
  obtain ⟨Z, hZ⟩ : ∃ Z, Z = w.heap.size := ⟨_, rfl⟩
  obtain ⟨W1, hW1⟩ : ∃ W1, w.alloc (.cells #[.string s.1, .string s.2, .int .i64 v] 77) = W1 := ⟨_, rfl⟩
  have hB1 : Below w.heap.size w W1 := by rw [← hW1]; exact (Below.refl _ w).alloc (Nat.le_refl _) _
  have hbx1 : Whole W1 w.heap.size 77 [.string s.1, .string s.2, .int .i64 v] := by rw [← hW1]; exact Whole.fresh w _ [_, _, _]
  have hbes := fun W (hW : Below w.heap.size w W) => beside_any q floor L s f b W (h.rd.next hW) hrep hs (by omega)
  have HBE := Lib.hid hbes; clear hbes
  have HP := Lib.hid h
  obtain ⟨A, cap, hw, hown, hov⟩ := h.blk
  have HOWN := Lib.hid hown
  have HOV := Lib.hid hov
  have HW := Lib.hid hw
  have hAc : (A = none ∧ cap = 0 ∧ L = []) ∨ ∃ g, A = some ⟨g, 0, none⟩ := by
    rcases hown.form with ⟨e, h0⟩ | ⟨g, c, e, _⟩
    · injection e with e1 e2 e3
      exact .inl ⟨e1, e3, h0⟩
    · injection e with e1 e2 e3
      exact .inr ⟨g, e1⟩
  have hlc : L.length ≤ cap := by obtain ⟨A', c', e, hc, _⟩ := (Own.rd encW_len hown); injection e with _ _ e3; rw [e3]; exact hc
  have hRW : RdW w w.heap.size (.slice A L.length cap) L := Own.rd encW_len hown
  have HRW := Lib.hid hRW
  have hqs := h.size
  have hrow : ∀ g, ov = some g → g < w.heap.size := fun g hg => (h.row hg).2
  have HROW := Lib.hid hrow
  have hbase := h.low.2
  have HREP := Lib.hid hrep
  have b0 := hbx1.cell 0 _ rfl
  have b1 := hbx1.cell 1 _ rfl
  have HBX1 := Lib.hid hbx1
  have HB1 := Lib.hid hB1
  have hmax := fun (w : World) (ts : Array TypeId) (t : TypeId) (x y : ByteArray) => (Lib.run_max_strs (P := Tryz.prog) w ts t x y)
  have hmin := fun (w : World) (ts : Array TypeId) (t : TypeId) (x y : ByteArray) => (Lib.run_min_strs (P := Tryz.prog) w ts t x y)
  simp only [maxS_eq, minS_eq] at hmax hmin
  clear h hown hov hw hRW hrow hrep hbx1 hB1
  have HS := Lib.hid hs; clear hs
  go_enter Tryz.func34, Tryz.ntmps34
  go_wp2_with fail
  have HW1 := Lib.hid hW1; clear hW1
  refine (HBE.out _ HB1.out).mono ?_
  rintro e w2 ⟨lo, hi, rfl, hbs, hb2⟩
  have hB2 : Below w.heap.size w w2 := HB1.out.trans (hb2.mono HB1.out.size)
  have hbx2 : Whole w2 w.heap.size 77 [.string s.1, .string s.2, .int .i64 v] := HBX1.out.below hb2 HBX1.out.size
  have hq2 : Whole w2 q 70 [.int .i64 floor, .slice A L.length cap] := HW.out.below hB2 HW.out.size
  have c1 := hq2.cell 1 _ rfl
  have HB2 := Lib.hid hB2
  have HBX2 := Lib.hid hbx2
  have hlh := hbs.le
  have hhl := hbs.len
  have HBS := Lib.hid hbs
  clear hb2 hB2 hbx2 hq2 hbs b0 b1 HBX1 HB1 HBE
  go_upto_region 3 with fail
  obtain ⟨M, hM⟩ : ∃ M, M = (L.take hi).drop lo := ⟨_, rfl⟩
  have hML : M.length = hi - lo := by rw [hM, List.length_drop, List.length_take]; omega
  obtain ⟨N, hN⟩ : ∃ N, N = hi - lo := ⟨_, rfl⟩
  have hNb : N ≤ 100000 := by omega
  have HM := Lib.hid hM; clear hM
  have HN := Lib.hid hN
  have HML := Lib.hid (hML.trans hN.symm); clear hML
  have hsub : ∀ (A' : Option Addr) (c' : Nat), N ≤ c' → (lo < hi → A' = A.map (·.add (lo * 3))) → RdW w w.heap.size (.slice A' N c') M := fun A' c' h1 h2 => by
    have hT := Rd.take HRW.out hi hhl
    have hTl : (L.take hi).length = hi := by rw [List.length_take]; omega
    have hD := Rd.drop hT lo c' (by omega) (by rw [hTl, ← HN.out]; exact h1) A' (fun h => h2 (by rw [hTl] at h; exact h))
    rw [hTl, ← HN.out, ← HM.out] at hD
    exact hD
  have HSUB := Lib.hid hsub; clear hsub
  have hB0 : (lo : Int) ≤ (hi : Int) := by omega
  have hB3 : (hi : Int) ≤ (cap : Int) := by omega
  clear hN
  go_cut [24, 25, 26] (fun sv nv iv wx => ∃ (A' : Option Addr) (c' : Nat), sv = .slice A' N c' ∧ nv = .int .i64 (N : Int) ∧ iv = .int .i64 0 ∧ wx = w2 ∧ Hid (RdW w w.heap.size (.slice A' N c') M))
  case first =>
    rcases hAc with ⟨rfl, rfl, hL0⟩ | ⟨gb, rfl⟩
    · obtain rfl : lo = 0 := by omega
      obtain rfl : hi = 0 := by omega
      obtain rfl : N = 0 := HN.out
      go_wp2_with fail
      go_meet
      case rel => exact ⟨none, 0, rfl, rfl, rfl, rfl, Lib.hid (HSUB.out none 0 (Nat.le_refl _) (fun h => by omega))⟩
    · by_cases hcl : cap = lo
      · subst hcl
        obtain rfl : cap = hi := by omega
        have hn0 : N = 0 := by rw [HN.out]; omega
        subst hn0
        go_wp2_with fail
        go_meet
        case rel => exact ⟨_, _, rfl, rfl, rfl, rfl, Lib.hid (HSUB.out _ _ (Nat.zero_le _) (fun h => by omega))⟩
      · have hN2 := HN.out
        go_wp2_with fail
        rw [← hN2]
        clear hN2
        go_meet
        case rel => exact ⟨some ⟨gb, lo * 3, none⟩, cap - lo, rfl, rfl, rfl, rfl, Lib.hid (HSUB.out _ _ (by rw [HN.out]; omega) (fun _ => by rw [Option.map_some, Addr.add_lit, Nat.zero_add]))⟩
  case rest =>
    obtain ⟨A', c', rfl, rfl, rfl, rfl, HRM⟩ := hcut
    clear hAc hB0 hB3 hlh c1
    rw [← hZ] at HBX2 HB2 HRM HROW hqs hbase
    rw [← hZ]
    have HZ := Lib.hid hZ; clear hZ
    go_wp2_with fail
    go_loopw [6, 26] (fun rv iv wr => ∃ (i : Nat) (x : K × K) (R : List Wr) (Ar : Option Addr) (cr : Nat), i ≤ N ∧ iv = .int .i64 (i : Int) ∧ rv = .slice Ar R.length cr ∧ R.length ≤ 2 * i ∧ Hid (OwnMk wr (Z + 1) (.slice Ar R.length cr) R) ∧ Hid (Whole wr Z 77 [.string x.1, .string x.2, .int .i64 v]) ∧ Hid (WInv f s v (M.take i) x R) ∧ Hid (Below Z w wr)) (fun _ iv _ => N - (intOf iv).toNat)
    case atStart => exact ⟨0, s, [], none, 0, Nat.zero_le _, rfl, rfl, by simp, Lib.hid (Own.nil _ _), HBX2, Lib.hid (WInv.start f s v), HB2⟩
    case round =>
      obtain ⟨i, x, R, Ar, cr, hil, rfl, rfl, hRl, HOR, HBX, HI, HB⟩ := hrel
      have hzlt : Z < wr.heap.size := HBX.out.size
      by_cases hlt : i < N
      · have hlt2 : i < M.length := by rw [HML.out]; exact hlt
        obtain ⟨A2, c2, ev, -, hcells⟩ := RdW.at HRM.out
        injection ev with ev1 ev2 ev3
        subst ev1
        clear ev2 ev3
        obtain ⟨gb, o, rfl, hgb, k0, k1, k2⟩ := hcells i hlt2
        rw [← HB.out.cell (p := ⟨gb, _, none⟩) hgb] at k0
        rw [← HB.out.cell (p := ⟨gb, _, none⟩) hgb] at k1
        rw [← HB.out.cell (p := ⟨gb, _, none⟩) hgb] at k2
        clear hcells
        have htk : M.take (i + 1) = M.take i ++ [M[i]] := by rw [List.take_add_one, List.getElem?_eq_getElem hlt2]; rfl
        have hmem : M[i] ∈ M := List.getElem_mem hlt2
        have hyL : M[i] ∈ L := by
          exact List.mem_of_mem_take (List.mem_of_mem_drop (show M[i] ∈ (L.take hi).drop lo by rw [← HM.out]; exact hmem))
        have hyne := (HREP.out.ne _ hyL).1
        have hyt := HBS.out.touch M[i] (by rw [← HM.out]; exact hmem)
        have hah : ∀ z ∈ M.take i, Ahead z M[i] := fun z hz => by
          obtain ⟨t, ht, rfl⟩ := List.mem_take_iff_getElem.1 hz
          have hp : M.Pairwise Ahead := by rw [HM.out]; exact (HREP.out.rise.sublist (List.take_sublist _ _)).sublist (List.drop_sublist _ _)
          exact List.pairwise_iff_getElem.1 hp t i (by omega) hlt2 (by omega)
        have hsame := fun (hv : M[i].v = v) => HI.out.same hyne hv hyt.2 hyt.1
        have hother := fun (hv : M[i].v ≠ v) W hW => HI.out.other (W := W) hv hah hW
        rw [← htk] at hsame hother
        have HSAME := Lib.hid hsame; clear hsame
        have HOTH := Lib.hid hother; clear hother
        clear hmem hyL hyne hyt hah htk
        generalize M[i] = y at k0 k1 k2 HSAME HOTH
        obtain ⟨⟨y1, y2⟩, yv⟩ := y
        simp only at k0 k1 k2 HSAME HOTH
        obtain ⟨w3, hw3⟩ : ∃ w3, wr.alloc (.cells #[.string y1, .string y2, .int .i64 yv] 77) = w3 := ⟨_, rfl⟩
        have hb3 : Below wr.heap.size wr w3 := by rw [← hw3]; exact (Below.refl _ _).alloc (Nat.le_refl _) _
        have hx3 : Whole w3 wr.heap.size 77 [.string y1, .string y2, .int .i64 yv] := by rw [← hw3]; exact Whole.fresh wr _ [_, _, _]
        have hz3 : w3.heap.size = wr.heap.size + 1 := by rw [← hw3]; simp
        have hbx3 : Whole w3 Z 77 [.string x.1, .string x.2, .int .i64 v] := HBX.out.below hb3 hzlt
        have hor3 : OwnMk w3 (Z + 1) (.slice Ar R.length cr) R := HOR.out.below hb3 (Nat.le_refl _)
        have hbw3 : Below Z w w3 := HB.out.trans (hb3.mono (by omega))
        have y0 := hx3.cell 0 _ rfl
        have y1' := hx3.cell 1 _ rfl
        have y2' := hx3.cell 2 _ rfl
        have x0 := hbx3.cell 0 _ rfl
        have x1 := hbx3.cell 1 _ rfl
        have x2 := hbx3.cell 2 _ rfl
        have HX3 := Lib.hid hx3
        have HBX3 := Lib.hid hbx3
        have HOR3 := Lib.hid hor3
        have HBW3 := Lib.hid hbw3
        have hrow3 : ∀ g, Value.ownBlock (.slice Ar R.length cr) = some g → g < wr.heap.size := fun g hg => (HOR.out.low hg).2
        have HROW3 := Lib.hid hrow3
        clear hb3 hx3 hbx3 hor3 hbw3 hrow3 HBX HOR HB
        by_cases hv : yv = v
        · subst hv
          have hinv := HSAME.out rfl
          have HINV := Lib.hid hinv
          clear hinv HSAME HOTH
          go_wp2_with fail
          have HW3 := Lib.hid hw3; clear hw3
          clear x0 x1 x2 y0 y1' y2' k0 k1 k2
          have hyd := HX3.out.drew
          have hd := HBX3.out.drew
          have hdo := HOR3.out.drew
          have hdb := HBW3.out.drew
          have hyz : Z ≠ wr.heap.size := by omega
          refine wp_region_planG (fun W => Whole W Z 77 [.string x.1, .string x.2, .int .i64 yv] ∧ Whole W wr.heap.size 77 [.string y1, .string y2, .int .i64 yv]) (fun W => Whole W wr.heap.size 77 [.string y1, .string y2, .int .i64 yv]) 16 [(0, 0), (0, 1), (0, 2), (0, 3), (0, 4), (0, 5), (0, 6), (0, 7), (0, 8), (0, 9), (1, 10), (1, 11), (1, 12), (1, 13), (1, 14), (1, 15), (2, 16), (1, 17), (1, 18), (2, 19)] (by kernel_rfl) (by kernel_rfl) (fun _ _ d _ _ h => by cases d <;> exact h) ⟨hd, hyd⟩ hyd ?_
          clear HX3 HOR3 HBW3 HBX3 HW3
          generalize w3.drew = w5 at hd hdo hdb hyd ⊢
          iterate 10 (refine PlanG.take (v := ?_) rfl rfl ?_ ?_; rotate_left; (focus (intro W hW; have m0 := hW.1.cell 0 _ rfl; have m1 := hW.1.cell 1 _ rfl; have m2 := hW.2.cell 0 _ rfl; have m3 := hW.2.cell 1 _ rfl; go_simp; (try with_reducible rfl); done)); (try simp only [Act.put, List.setIfInBounds_toArray, List.set_cons_zero, List.set_cons_succ]))
          iterate 6 (refine PlanG.take2 (v := ?_) rfl rfl ?_ ?_; rotate_left; (focus (intro W hW; have m2 := hW.cell 0 _ rfl; have m3 := hW.cell 1 _ rfl; go_simp; (try with_reducible rfl); done)); (try simp only [Act.put, List.setIfInBounds_toArray, List.set_cons_zero, List.set_cons_succ]))
          have hd4 : Whole (w5.setCell ⟨Z, 0, none⟩ (.string (mn x.1 y1))) Z 77 [.string (mn x.1 y1), .string x.2, .int .i64 yv] := hd.put 0 _
          have hy4 : Whole (w5.setCell ⟨Z, 0, none⟩ (.string (mn x.1 y1))) wr.heap.size 77 [.string y1, .string y2, .int .i64 yv] := hyd.away (p := ⟨Z, 0, none⟩) (Ne.symm hyz) _
          have hd5 : Whole ((w5.setCell ⟨Z, 0, none⟩ (.string (mn x.1 y1))).setCell ⟨Z, 1, none⟩ (.string (mx x.2 y2))) Z 77 [.string (mn x.1 y1), .string (mx x.2 y2), .int .i64 yv] := hd4.put 1 _
          have hy5 : Whole ((w5.setCell ⟨Z, 0, none⟩ (.string (mn x.1 y1))).setCell ⟨Z, 1, none⟩ (.string (mx x.2 y2))) wr.heap.size 77 [.string y1, .string y2, .int .i64 yv] := hy4.away (p := ⟨Z, 1, none⟩) (Ne.symm hyz) _
          have ho5 := (hdo.setOtherK (g := Z) (by omega) 0 (.string (mn x.1 y1))).setOtherK (g := Z) (by omega) 1 (.string (mx x.2 y2))
          have HO5 := Lib.hid ho5
          have HB5 := Lib.hid ((hdb.setCell (p := ⟨Z, 0, none⟩) (Nat.le_refl _) (.string (mn x.1 y1))).setCell (p := ⟨Z, 1, none⟩) (Nat.le_refl _) (.string (mx x.2 y2)))
          have HY4 := Lib.hid hy4
          have HY5 := Lib.hid hy5
          have HD5 := Lib.hid hd5
          have p0 := hd.cell 0 _ rfl
          have f0 := hd.frozen 0
          have p1 := hd4.cell 1 _ rfl
          have f1 := hd4.frozen 1
          clear hd hdo hdb hyd hd4 hy4 hd5 hy5 ho5
          refine PlanG.step rfl rfl (fun Kk hK => ?_)
          go_simp
          refine hK.out _ _ HY4.out ?_
          clear hK Kk p0 f0
          (try simp only [Act.put, List.setIfInBounds_toArray, List.set_cons_zero, List.set_cons_succ])
          iterate 2 (refine PlanG.take2 (v := ?_) rfl rfl ?_ ?_; rotate_left; (focus (intro W hW; go_simp; (try with_reducible rfl); done)); (try simp only [Act.put, List.setIfInBounds_toArray, List.set_cons_zero, List.set_cons_succ]))
          refine PlanG.step rfl rfl (fun Kk hK => ?_)
          go_simp
          refine hK.out _ _ HY5.out ?_
          clear hK Kk p1 f1
          (try simp only [Act.put, List.setIfInBounds_toArray, List.set_cons_zero, List.set_cons_succ])
          simp only [PlanG]
          generalize (w5.setCell ⟨Z, 0, none⟩ (.string (mn x.1 y1))).setCell ⟨Z, 1, none⟩ (.string (mx x.2 y2)) = w6 at HO5 HB5 HY5 HD5 ⊢
          clear HY4 HY5
          go_wp2_with fail
          go_roundw
          case rel => exact ⟨i + 1, (mn x.1 y1, mx x.2 y2), R, Ar, cr, by omega, by go_num, rfl, by omega, HO5, HD5, HINV, HB5⟩
          case measure => simp [intOf]; omega
        · have hx12 : x.1 < x.2 := by have h1 := HI.out.wide; have h2 := HS.out; grind
          have hwo := without_any (y1, y2) [x] (.slice (some ⟨w3.heap.size, 0, none⟩) 1 1) (w3.alloc (.cells #[.string x.1, .string x.2] 52)) (RdS.oneS w3 x) (by simp)
          have HWO := Lib.hid hwo
          have HX12 := Lib.hid hx12
          have HZ3 := Lib.hid hz3
          clear hwo hx12 hz3 HSAME
          go_wp2_with fail
          have HW3 := Lib.hid hw3; clear hw3
          refine HWO.out.mono ?_
          rintro e w5 ⟨v', Wl, rfl, ho5, hb5, hn5, hm5, -⟩
          have hfit : Fits Wl (fun k => has (y1, y2) k ∧ ¬ has x k) := ⟨hn5, fun k => (hm5 k).trans (by rw [mem_cons]; simp [mem_nil])⟩
          have hw2 := without_len hfit HX12.out
          have hinv := HOTH.out hv Wl hfit
          have hzw : wr.heap.size < w3.heap.size := by have := HZ3.out; omega
          have hb35 : Below w3.heap.size w3 w5 := ((Below.refl _ w3).alloc (Nat.le_refl _) _).trans (hb5.mono (by simp))
          have HX5 := Lib.hid (HX3.out.below hb35 HX3.out.size)
          have HBX5 := Lib.hid (HBX3.out.below hb35 HBX3.out.size)
          have HOR5 := Lib.hid (HOR3.out.below hb35 (Nat.le_refl _))
          have HBW5 := Lib.hid (HBW3.out.trans (hb35.mono (by omega)))
          have HINV := Lib.hid hinv
          have hzo5 : wr.heap.size < w5.heap.size := HX5.out.size
          have HNE5 := Lib.hid (show ∀ g, Value.ownBlock (.slice Ar R.length cr) = some g → g ≠ wr.heap.size from fun g hg => by have := HROW3.out g hg; omega)
          obtain ⟨A5, c5, hv5, -⟩ := ho5.read
          subst hv5
          have HO5 := Lib.hid ho5
          clear ho5 hb5 hn5 hm5 hfit hinv hb35 hzw x0 x1 x2 y0 y1' y2' k0 k1 k2 HX3 HBX3 HOR3 HBW3 HW3 HWO HOTH HX12 HROW3 HZ3
          generalize w3.alloc (.cells #[.string x.1, .string x.2] 52) = w4 at HO5
          generalize w4.heap.size = b5 at HO5
          obtain ⟨zo, hzo⟩ : ∃ zo, zo = wr.heap.size := ⟨_, rfl⟩
          rw [← hzo] at HX5 hzo5 HNE5 ⊢
          have HZO := Lib.hid hzo; clear hzo
          go_wp2_with fail
          go_loopw [6, 60] (fun rv jv wq => ∃ (j : Nat) (R2 : List Wr) (A2 : Option Addr) (c2 : Nat), j ≤ Wl.length ∧ jv = .int .i64 (j : Int) ∧ rv = .slice A2 R2.length c2 ∧ Hid (R2 = R ++ (Wl.take j).map fun u => ⟨u, yv⟩) ∧ R2.length ≤ R.length + j ∧ Hid (OwnMk wq (Z + 1) (.slice A2 R2.length c2) R2) ∧ Hid (∀ g, Value.ownBlock (.slice A2 R2.length c2) = some g → g ≠ zo) ∧ Hid (Whole wq Z 77 [.string x.1, .string x.2, .int .i64 v]) ∧ Hid (Whole wq zo 77 [.string y1, .string y2, .int .i64 yv]) ∧ Hid (OwnS wq b5 (.slice A5 Wl.length c5) Wl) ∧ Hid (Below Z w wq)) (fun _ jv _ => Wl.length - (intOf jv).toNat)
          case atStart => exact ⟨0, R, Ar, cr, Nat.zero_le _, rfl, rfl, Lib.hid (by simp), by omega, HOR5, HNE5, HBX5, HX5, HO5, HBW5⟩
          case round =>
            obtain ⟨j, R2, A2, c2, hjl, rfl, rfl, HR2, hR2l, HOQ, HNQ, HBQ, HYQ, HWQ, HBB⟩ := hrel
            clear HX5 HBX5 HOR5 HBW5 HNE5 HO5
            have hZq := HBQ.out.size
            have hzoq := HYQ.out.size
            by_cases hjlt : j < Wl.length
            · obtain ⟨A6, c6, ev6, hcel⟩ := HWQ.out.read
              injection ev6 with e61 e62 e63
              subst e61
              clear e62 e63
              obtain ⟨gw, rfl, _, hgw, u0, u1⟩ := hcel j hjlt
              have hnext : R2 ++ [(⟨Wl[j], yv⟩ : Wr)] = R ++ (Wl.take (j + 1)).map fun u => ⟨u, yv⟩ := by
                rw [HR2.out, List.take_add_one, List.getElem?_eq_getElem hjlt, List.map_append, List.append_assoc]; rfl
              clear hcel
              generalize Wl[j] = u at u0 u1 hnext
              obtain ⟨u1', u2'⟩ := u
              simp only at u0 u1 hnext
              obtain ⟨w6, hw6⟩ : ∃ w6, wr.alloc (.cells #[.string u1', .string u2'] 52) = w6 := ⟨_, rfl⟩
              have hb6 : Below wr.heap.size wr w6 := by rw [← hw6]; exact (Below.refl _ _).alloc (Nat.le_refl _) _
              have hz6 : w6.heap.size = wr.heap.size + 1 := by rw [← hw6]; simp
              have hs6 : Whole w6 wr.heap.size 52 [.string u1', .string u2'] := by rw [← hw6]; exact Whole.fresh wr _ [_, _]
              have hy6 : Whole w6 zo 77 [.string y1, .string y2, .int .i64 yv] := HYQ.out.below hb6 hzoq
              have hb7 : Below wr.heap.size wr (w6.alloc (.cells #[.string u1', .string u2', .int .i64 yv] 77)) := hb6.alloc (by omega) _
              have ho7 := HOQ.out.below hb7 (Nat.le_refl _)
              have q0 := hs6.cell 0 _ rfl
              have q1 := hs6.cell 1 _ rfl
              have q2 := hy6.cell 2 _ rfl
              have HO7 := Lib.hid ho7
              have HB7 := Lib.hid hb7
              have HNX := Lib.hid hnext
              have HZ6 := Lib.hid hz6
              have hbs7 : Z + 1 ≤ (w6.alloc (.cells #[.string u1', .string u2', .int .i64 yv] 77)).heap.size := by have := hb7.size; omega
              have hR2b : R2.length + 1 ≤ 1000000 := by omega
              clear hb6 hs6 hy6 hb7 ho7 hnext hz6
              go_wp2_with (at_builtin; go_must (refine wpList_addK rfl _ _ rfl (Z + 1) (.slice A2 R2.length c2) R2 rfl HO7.out (w6.heap.size + 1) (.slice (some ⟨w6.heap.size, 0, none⟩) 1 1) [⟨(u1', u2'), yv⟩] rfl (RdMk.one w6 ⟨(u1', u2'), yv⟩) hR2b hbs7 ?_))
              intro A8 c8 w8 ho8 hg8 hn8
              have HW6 := Lib.hid hw6; clear hw6
              have hrowne : Value.ownBlock (.slice A2 R2.length c2) ≠ some Z := fun e => by have := (HO7.out.low (i := Z) e).1; omega
              have hx8 : Whole w8 Z 77 [.string x.1, .string x.2, .int .i64 v] := (HBQ.out.below HB7.out hZq).grown hg8.out (fun e => hrowne e.symm)
              have hy8 : Whole w8 zo 77 [.string y1, .string y2, .int .i64 yv] := (HYQ.out.below HB7.out hzoq).grown hg8.out (fun e => HNQ.out zo e.symm rfl)
              have hw8 : OwnS w8 b5 (.slice (some ⟨gw, 0, none⟩) Wl.length c5) Wl := (HWQ.out.below HB7.out (Nat.le_refl _)).kept hg8.out (.inr fun e => Own.apartM (e := 52) (enc := cellsS) (k := 2) (HWQ.out.below HB7.out (Nat.le_refl _)) HO7.out (by decide) (g := gw) rfl e.symm)
              have hb8 : Below Z w w8 := HO7.out.grown (HBB.out.trans (HB7.out.mono (by omega))) hg8.out (by omega) (by omega)
              have hne8 : ∀ g, Value.ownBlock (.slice A8 (R2.length + 1) c8) = some g → g ≠ zo := fun g hg => by
                rcases hn8.out g hg with h1 | h1
                · exact HNQ.out g h1
                · have := HB7.out.size; omega
              have HX8 := Lib.hid hx8
              have HY8 := Lib.hid hy8
              have HWS8 := Lib.hid hw8
              have HB8 := Lib.hid hb8
              have HNE8 := Lib.hid hne8
              have hlen8 : (R2 ++ [(⟨(u1', u2'), yv⟩ : Wr)]).length = R2.length + 1 := by rw [List.length_append, List.length_cons, List.length_nil]
              clear hrowne hx8 hy8 hw8 hb8 hne8 hg8 hn8 q0 q1 q2 u0 u1
              have HNX2 := Lib.hid HNX.out
              generalize R2 ++ [(⟨(u1', u2'), yv⟩ : Wr)] = R3 at ho8 hlen8 HNX2 ⊢
              have HL3 := Lib.hid hlen8
              clear HNX hlen8
              go_wp2_with fail
              go_roundw
              case rel => exact ⟨j + 1, R3, A8, c8, by omega, by go_num, by rw [HL3.out], HNX2, by rw [HL3.out]; omega, by rw [HL3.out]; exact ho8, by rw [HL3.out]; exact HNE8, HX8, HY8, HWS8, HB8⟩
              case measure => simp [intOf]; omega
            · obtain rfl : j = Wl.length := by omega
              have hr2 : R2 = R ++ Wl.map fun u => ⟨u, yv⟩ := by have h1 := HR2.out; rwa [List.take_length] at h1
              have hinv2 : WInv f s v (M.take (i + 1)) x R2 := by rw [hr2]; exact HINV.out
              have HINV2 := Lib.hid hinv2
              clear hr2 hinv2 HR2 HINV
              go_wp2_with fail
              go_roundw
              case rel => exact ⟨i + 1, x, R2, A2, c2, by omega, by go_num, rfl, by omega, HOQ, HBQ, HINV2, HBB⟩
              case measure => simp [intOf]; omega
      · obtain rfl : i = N := by omega
        have hinv := HI.out
        rw [List.take_of_length_le (by rw [HML.out]; exact Nat.le_refl _), HM.out] at hinv
        have HINV := Lib.hid hinv
        have x0 := HBX.out.cell 0 _ rfl
        have x1 := HBX.out.cell 1 _ rfl
        have x2 := HBX.out.cell 2 _ rfl
        have hb4 : Below wr.heap.size wr (wr.alloc (.cells #[.string x.1, .string x.2, .int .i64 v] 77)) := (Below.refl _ _).alloc (Nat.le_refl _) _
        have ho4 := HOR.out.below hb4 (Nat.le_refl _)
        have HO4 := Lib.hid ho4
        have HB4 := Lib.hid hb4
        have hbs4 : Z + 1 ≤ (wr.alloc (.cells #[.string x.1, .string x.2, .int .i64 v] 77)).heap.size := by simp; omega
        have hRb : R.length + 1 ≤ 1000000 := by omega
        have hRb2 : R.length + 1 ≤ 2 * i + 1 := by omega
        have HRB2 := Lib.hid hRb2
        clear hinv hb4 ho4 HI hRb2 HSUB
        go_wp2_with (at_builtin; go_must (refine wpList_addK rfl _ _ rfl (Z + 1) (.slice Ar R.length cr) R rfl HO4.out (wr.heap.size + 1) (.slice (some ⟨wr.heap.size, 0, none⟩) 1 1) [⟨x, v⟩] rfl (RdMk.one wr ⟨x, v⟩) hRb hbs4 ?_))
        intro A5 c5 w5 ho5 hg5 hn5
        have hbw5 : Below Z w w5 := HO4.out.grown (HB.out.trans (HB4.out.mono (by omega))) hg5.out (by omega) (by omega)
        have hl5 : (R ++ [(⟨x, v⟩ : Wr)]).length = R.length + 1 := by rw [List.length_append, List.length_cons, List.length_nil]
        have hso := sortM_any w5 (Z + 1) (.slice A5 (R.length + 1) c5) (R ++ [⟨x, v⟩]) (by have h := ho5.out; simpa only [List.length_append, List.length_cons, List.length_nil] using h) (by rw [hl5]; omega)
        have HSO := Lib.hid hso
        have HBW5 := Lib.hid hbw5
        have HL5 := Lib.hid hl5
        have hz5 : Z + 1 ≤ w5.heap.size := Nat.le_trans hbs4 hg5.out.size
        clear hso hbw5 hl5 x0 x1 x2 ho5 hg5 hn5 HO4 HB4 HB HOR HBX
        go_wp2_with fail
        refine HSO.out.mono ?_
        rintro e w6 ⟨rfl, S, ho6, hg6, hperm, hsort⟩
        have hSl : S.length = R.length + 1 := by rw [← hperm.length_eq]; exact HL5.out
        have hbw6 : Below Z w w6 := by
          obtain ⟨_, hlow⟩ : True ∧ ∀ g, Value.ownBlock (.slice A5 (R.length + 1) c5) = some g → Z ≤ g := ⟨trivial, fun g hg => by have := (ho6.low hg).1; omega⟩
          exact ⟨hg6.os.trans HBW5.out.os, hg6.tape.trans HBW5.out.tape, hg6.output.trans HBW5.out.output, Nat.le_trans HBW5.out.size hg6.size, fun k hk => (hg6.block k (Nat.lt_of_lt_of_le (by omega) hz5) (fun e => by have := hlow k e.symm; omega)).trans (HBW5.out.block k hk)⟩
        have hrep2 := WInv.done (f := f) (b := b) HREP.out HS.out hbv HBS.out HINV.out hperm hsort
        have hq6 : Whole w6 q 70 [.int .i64 floor, .slice A L.length cap] := HW.out.below hbw6 hqs
        have ho6' : OwnMk w6 base (.slice A L.length cap) L := HOWN.out.below hbw6 (by rw [HZ.out]; exact Nat.le_refl _)
        have hsrc : SrcK w6 (.slice A L.length cap) S (.slice A5 (R.length + 1) c5) := ho6.src (fun e => by rw [e] at hSl; simp at hSl) (fun g hg => by have := HROW.out g (HOV.out ▸ hg); omega)
        have hrp := sreplace_any L lo hi HBS.out.le hhl S (fun e => by rw [e] at hSl; simp at hSl) (fun e => by have h1 := HRB2.out; have h2 := HN.out; omega) (.slice A L.length cap) (.slice A5 (R.length + 1) c5) w6 base ho6' (by have h1 := hbw6.size; have h2 := HZ.out; omega) hsrc (by have := HRB2.out; omega)
        obtain ⟨L2, hL2⟩ : ∃ L2, L2 = L.take lo ++ S ++ L.drop hi := ⟨_, rfl⟩
        rw [← hL2] at hrp hrep2
        clear hL2
        have c1 := hq6.cell 1 _ rfl
        have HRP := Lib.hid hrp
        have HREP2 := Lib.hid hrep2
        have HBW6 := Lib.hid hbw6
        clear hrep2 hq6 ho6' hsrc hrp hbw6 ho6 hg6 hperm hsort hSl hz5 HSO
        go_wp2_with fail
        refine HRP.out.mono ?_
        rintro e w7 ⟨A7, c7, rfl, ho7, hg7, hn7⟩
        rw [HOV.out] at hg7 hn7
        obtain ⟨s1, ⟨uu, s2⟩, s3, s4⟩ := HP.out.store (show Below w.heap.size w w6 by rw [← HZ.out]; exact HBW6.out) hg7 rfl ho7 hn7
        have HS1 := Lib.hid s1
        clear s1 ho7 hg7 hn7 c1
        go_wp2_with fail
        go_end0
        exact ⟨rfl, _, _, HS1.out, HREP2.out⟩
end Go.Proofs.YtgppgecglkellaaGreat
namespace Go.Proofs.YtgppgecglkellaaGreat
theorem xor_nat (k : IntKind) (j : Nat) (hj : j ≤ k.bits) (hk : ∀ n : Int, 0 ≤ n → n < 2 ^ j → k.wrap n = n) (a b : Nat) (ha : a < 2 ^ j) (hb : b < 2 ^ j) : bits .xor k a b = ((a ^^^ b : Nat) : Int) := by
  have hp : 2 ^ j ≤ 2 ^ k.bits := Nat.pow_le_pow_right (by decide) hj
  have ha' : a % 2 ^ k.bits = a := Nat.mod_eq_of_lt (Nat.lt_of_lt_of_le ha hp)
  have hb' : b % 2 ^ k.bits = b := Nat.mod_eq_of_lt (Nat.lt_of_lt_of_le hb hp)
  simp only [bits, BitVec.ofInt_natCast, BitVec.toNat_xor, BitVec.toNat_ofNat, ha', hb']
  exact hk _ (Int.natCast_nonneg _) (by exact_mod_cast Nat.xor_lt_two_pow ha hb)
theorem xor32 {a b : Nat} (ha : a < 2 ^ 32) (hb : b < 2 ^ 32) : bits .xor .u32 (a : Int) (b : Int) = ((a ^^^ b : Nat) : Int) := xor_nat .u32 32 (by decide) wraps_u32 a b ha hb
theorem xor8 {a b : Nat} (ha : a < 2 ^ 8) (hb : b < 2 ^ 8) : bits .xor .u8 (a : Int) (b : Int) = ((a ^^^ b : Nat) : Int) := xor_nat .u8 8 (by decide) wraps_u8 a b ha hb
end Go.Proofs.YtgppgecglkellaaGreat
