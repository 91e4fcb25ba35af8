/- slices.DeleteFunc over marks, with the closure of Forget; slices.BinarySearchFunc with those of beside. Spans that are written at one version, behind what was written: pure. -/
import Derived.Test.YtgppgecglkellaaGreatFae
import Derived.Test.YtgppgecglkellaaGreatFad
import Derived.Deep.LoopGhost
namespace Go.Proofs.YtgppgecglkellaaGreat
open Go.RowKit
attribute [local go_sem] less_eq same_eq le_eq ge_eq gt_eq

/-- what Forget keeps -/
def keepB (v : Int) (x : Wr) : Bool := !decide (x.v ≤ v)
theorem grown_same (w : World) (row : Option Nat) : w.grownBy w row := ⟨rfl, rfl, rfl, Nat.le_refl _, fun _ _ _ => rfl⟩
theorem grown_trans' {a b c : World} {row : Option Nat} (h1 : a.grownBy b row) (h2 : b.grownBy c row) : a.grownBy c row :=
  ⟨h2.os.trans h1.os, h2.tape.trans h1.tape, h2.output.trans h1.output, Nat.le_trans h1.size h2.size, fun k hk hn => (h2.block k (Nat.lt_of_lt_of_le hk h1.size) hn).trans (h1.block k hk hn)⟩
theorem grown_cell {w w' : World} {row : Option Nat} (h : w.grownBy w' row) {p : Addr} (hp : p.block < w.heap.size) (hr : row ≠ some p.block) : w'.cell? p = w.cell? p := by
  have := h.block p.block hp (Ne.symm hr)
  unfold World.cell?
  rw [this]

set_option maxHeartbeats 1000000 in
set_option maxRecDepth 100000 in
theorem forgetcl_any (s : Int) (x : Wr) (B : Nat) (w : World) (h0 : w.cell? ⟨B, 0, none⟩ = some (.int .i64 s)) :
    Calls Tryz.prog 27 #[.agg #[.string x.s.1, .string x.s.2, .int .i64 x.v], .pointer (some ⟨B, 0, none⟩)] w fun e w' => e = .returned (.bool (!keepB s x)) ∧ Below w.heap.size w w' := by
  have e : (!keepB s x) = decide (x.v ≤ s) := by simp [keepB]
  rw [e]
  clear e
  have h0' := (World.cell?_alloc_some w ⟨B, 0, none⟩ (.cells #[.string x.s.1, .string x.s.2, .int .i64 x.v] 77) (by rw [h0]; rfl)).trans h0
  clear h0
  go_enter Tryz.func27, Tryz.ntmps27
  go_wp2_with fail
  go_ret
  exact ⟨rfl, (Below.refl _ w).alloc (Nat.le_refl _) _⟩

set_option maxHeartbeats 4000000 in
set_option maxRecDepth 100000 in
theorem index_any (s : Int) (B : Nat) (l : List Wr) (v : Value) (w : World) (hB : B < w.heap.size) (h0 : w.cell? ⟨B, 0, none⟩ = some (.int .i64 s)) (hv : RdW w w.heap.size v l) (hl : l.length < 4611686018427387904) :
    Calls Tryz.prog 35 #[v, .func (.func 27) #[] #[.pointer (some ⟨B, 0, none⟩)]] w fun e w' =>
      ((e = .returned (.int .i64 (-1)) ∧ ∀ t (_ : t < l.length), keepB s l[t] = true) ∨ (∃ i, ∃ hi : i < l.length, e = .returned (.int .i64 (i : Nat)) ∧ keepB s l[i] = false ∧ ∀ t (_ : t < l.length), t < i → keepB s l[t] = true)) ∧ Below w.heap.size w w' := by
  obtain ⟨A, c, rfl, hc, hi⟩ := hv.at
  have HI := Lib.hid hi; clear hi
  clear hv
  obtain ⟨g, hg⟩ : ∃ g, g = w.heap.size := ⟨_, rfl⟩
  have HG := Lib.hid hg
  have hbg : B < g := by omega
  clear hg
  have hcl := fun (x : Wr) W (hW : Below g w W) => forgetcl_any s x B W ((hW.cell (p := ⟨B, 0, none⟩) hbg).trans h0)
  have HCL := Lib.hid hcl; clear hcl h0
  go_enter Tryz.func35, Tryz.ntmps35
  go_wp2_with fail
  go_loopw [8] (fun iv wr => ∃ i : Nat, i ≤ l.length ∧ iv = .int .i64 i ∧ Hid (Below g w wr) ∧ Hid (∀ t (_ : t < l.length), t < i → keepB s l[t] = true)) (fun iv _ => l.length - (intOf iv).toNat)
  case atStart => exact ⟨0, Nat.zero_le _, rfl, Lib.hid (Below.refl _ _), Lib.hid (fun t _ h => absurd h (Nat.not_lt_zero _))⟩
  case round =>
    obtain ⟨i, hil, rfl, HBW, HP⟩ := hrel
    by_cases hlt : i < l.length
    · obtain ⟨b, o, rfl, hbB, k0, k1, k2⟩ := HI.out i hlt
      rw [← HBW.out.cell (p := ⟨b, _, none⟩) (by rw [HG.out]; exact hbB)] at k0
      rw [← HBW.out.cell (p := ⟨b, _, none⟩) (by rw [HG.out]; exact hbB)] at k1
      rw [← HBW.out.cell (p := ⟨b, _, none⟩) (by rw [HG.out]; exact hbB)] at k2
      have hcc := HCL.out l[i] wr HBW.out
      cases hx : keepB s l[i] with
      | true =>
        rw [hx] at hcc
        have hp : ∀ t (_ : t < l.length), t < i + 1 → keepB s l[t] = true := fun t ht h => by
          rcases Nat.lt_or_ge t i with h2 | h2
          · exact HP.out t ht h2
          · have e : t = i := by omega
            subst e; exact hx
        have HP2 := Lib.hid hp; clear hp hx
        generalize l[i] = z at k0 k1 k2 hcc
        obtain ⟨⟨zx, zy⟩, zv⟩ := z
        simp only [Bool.not_true] at k0 k1 k2 hcc
        have HCC := Lib.hid hcc; clear hcc
        go_wp2_with fail
        refine HCC.out.mono ?_
        rintro e w2 ⟨rfl, hb2⟩
        have HB2 := Lib.hid (HBW.out.trans (hb2.mono (by rw [HG.out]; exact HBW.out.size)))
        clear hb2 k0 k1 k2
        go_wp2_with fail
        go_roundw
        case rel => exact ⟨i + 1, by omega, by go_num, HB2, HP2⟩
        case measure => simp [intOf]; omega
      | false =>
        rw [hx] at hcc
        have HX := Lib.hid hx; clear hx
        have HPP := Lib.hid (show keepB s l[i] = false from HX.out)
        generalize l[i] = z at k0 k1 k2 hcc
        obtain ⟨⟨zx, zy⟩, zv⟩ := z
        simp only [Bool.not_false] at k0 k1 k2 hcc
        have HCC := Lib.hid hcc; clear hcc
        go_wp2_with fail
        refine HCC.out.mono ?_
        rintro e w2 ⟨rfl, hb2⟩
        have HB2 := Lib.hid (HBW.out.trans (hb2.mono (by rw [HG.out]; exact HBW.out.size)))
        clear hb2 k0 k1 k2
        go_wp2_with fail
        go_ret
        exact ⟨.inr ⟨i, hlt, rfl, HX.out, HP.out⟩, by have h := HB2.out; rwa [HG.out] at h⟩
    · obtain rfl : i = l.length := by omega
      go_wp2_with fail
      go_ret
      exact ⟨.inl ⟨rfl, fun t ht => HP.out t ht ht⟩, by have h := HBW.out; rwa [HG.out] at h⟩

theorem flatG_set {α : Type} {enc : α → List Value} {k : Nat} (hk : ∀ x, (enc x).length = k) : ∀ (l : List α) (i j : Nat) (u : Value) (x' : α) (hi : i < l.length) (_ : j < k) (_ : (enc l[i]).set j u = enc x'), (flatG enc l).set (i * k + j) u = flatG enc (l.set i x')
  | x :: r, 0, j, u, x', _, hj, hx => by
    simp only [List.getElem_cons_zero] at hx
    simp only [Nat.zero_mul, Nat.zero_add, List.set_cons_zero]
    rw [show flatG enc (x :: r) = enc x ++ flatG enc r by simp [flatG], show flatG enc (x' :: r) = enc x' ++ flatG enc r by simp [flatG], List.set_append_left _ _ (by rw [hk]; exact hj), hx]
  | x :: r, i + 1, j, u, x', hi, hj, hx => by
    have ih := flatG_set hk r i j u x' (by simpa using hi) hj (by simpa using hx)
    simp only [List.set_cons_succ]
    rw [show flatG enc (x :: r) = enc x ++ flatG enc r by simp [flatG], show flatG enc (x :: r.set i x') = enc x ++ flatG enc (r.set i x') by simp [flatG], ← ih, List.set_append_right _ _ (by rw [hk, Nat.add_mul]; omega)]
    congr 2
    rw [hk, Nat.add_mul]; omega
set_option maxRecDepth 100000 in
theorem Own.setAt {α : Type} {enc : α → List Value} {k : Nat} {e : TypeId} {w : World} {base g m c : Nat} {l : List α} (hk : ∀ x, (enc x).length = k) (h : Own enc k e w base (.slice (some ⟨g, 0, none⟩) m c) l) (i j : Nat) (u : Value) (x' : α) (hi : i < l.length) (hj : j < k) (hx : (enc l[i]).set j u = enc x') :
    Own enc k e (w.setCell ⟨g, i * k + j, none⟩ u) base (.slice (some ⟨g, 0, none⟩) m c) (l.set i x') := by
  refine ⟨by rw [flatG_length hk], ?_⟩
  rcases h.2 with ⟨h2, _⟩ | ⟨g2, cap, cur, hv, hb, hh, h1, h2, h3, h4⟩
  · cases h2
  · injection hv with e1 e2 e3
    injection e1 with e1
    injection e1 with e1
    subst e1 e2 e3
    refine .inr ⟨g, c, cur.set! (i * k + j) u, by simp, hb, ?_, by simpa using h1, h2, by simpa using h3, ?_⟩
    · simp [World.setCell, Array.getElem?_modify, hh]
    · rw [List.length_set, ← flatG_set hk l i j u x' hi hj hx, ← h4]
      simp [List.take_set]
theorem Own.stand {α : Type} {enc : α → List Value} {k : Nat} {e : TypeId} {w : World} {base g m c : Nat} {l : List α} (h : Own enc k e w base (.slice (some ⟨g, 0, none⟩) m c) l) (o : Nat) : w.frozen? ⟨g, o, none⟩ = false := by
  rcases h.2 with ⟨h2, _⟩ | ⟨g2, cap, cur, hv, hb, hh, h1, h2, h3, h4⟩
  · cases h2
  · injection hv with e1 e2 e3
    injection e1 with e1
    injection e1 with e1
    subst e1
    simp [World.frozen?, hh]

theorem filter_take_succ {α : Type} (p : α → Bool) (l : List α) (j : Nat) (h : j < l.length) : (l.take (j + 1)).filter p = (l.take j).filter p ++ (if p l[j] = true then [l[j]] else []) := by
  rw [List.take_succ_eq_append_getElem h, List.filter_append]
  congr 1
  by_cases hp : p l[j] = true
  · simp [hp]
  · simp [hp]

set_option maxHeartbeats 8000000 in
set_option maxRecDepth 100000 in
theorem deleteFunc_any (s : Int) (B base : Nat) (l : List Wr) (v : Value) (w : World) (hB : B < w.heap.size) (hBv : v.ownBlock ≠ some B) (h0 : w.cell? ⟨B, 0, none⟩ = some (.int .i64 s)) (ho : OwnMk w base v l) (hbs : base ≤ w.heap.size) (hl : l.length < 4611686018427387904) :
    Calls Tryz.prog 26 #[v, .func (.func 27) #[] #[.pointer (some ⟨B, 0, none⟩)]] w fun e w' =>
      ∃ A c, e = .returned (.slice A (l.filter fun x => keepB s x).length c) ∧ OwnMk w' base (.slice A (l.filter fun x => keepB s x).length c) (l.filter fun x => keepB s x) ∧ w.grownBy w' v.ownBlock ∧ Value.ownBlock (.slice A (l.filter fun x => keepB s x).length c) = v.ownBlock := by
  have hix := index_any s B l v w (by omega) h0 (ho.rd encW_len) hl
  have hcl := fun (x : Wr) W (hW : w.grownBy W v.ownBlock) => forgetcl_any s x B W ((grown_cell hW (p := ⟨B, 0, none⟩) hB hBv).trans h0)
  have HCL := Lib.hid hcl; clear hcl h0 hBv
  have HIX := Lib.hid hix; clear hix
  have HO := Lib.hid ho
  obtain ⟨A, c, rfl, hlc⟩ : ∃ A c, v = .slice A l.length c ∧ l.length ≤ c := by
    obtain ⟨A, c, e1, e2, _⟩ := ho.rd encW_len
    exact ⟨A, c, e1, e2⟩
  have hrow := ho.row
  clear ho
  go_enter Tryz.func26, Tryz.ntmps26
  go_wp2_with fail
  refine HIX.out.mono ?_
  rintro e w1 ⟨⟨rfl, hall⟩ | ⟨i, hi, rfl, hxi, hlo⟩, hb1⟩
  · have hfl : (l.filter fun x => keepB s x) = l := List.filter_eq_self.2 fun x hx => by
      obtain ⟨t, ht, rfl⟩ := List.getElem_of_mem hx
      exact hall t ht
    have HFL := Lib.hid hfl; clear hfl hall
    have HO1 := Lib.hid (HO.out.below hb1 (Nat.le_refl _))
    have HB1 := Lib.hid (grow_below (grown_same w (Value.slice A l.length c).ownBlock) hb1 (Nat.le_refl _)); clear hb1
    go_wp2_with fail
    go_ret
    rw [HFL.out]
    exact ⟨A, c, rfl, HO1.out, HB1.out, rfl⟩
  · obtain ⟨g, cap, cur, hv, hbg, hg, hcc, hcm, hcl, hct⟩ := hrow.resolve_left (fun h => by rw [h.2] at hi; simp at hi)
    injection hv with e1 _ e3
    subst e1 e3
    have hft : (l.take (i + 1)).filter (fun x => keepB s x) = l.take i := by
      rw [filter_take_succ _ l i hi, hxi]
      simp only [Bool.false_eq_true, if_false, List.append_nil]
      exact List.filter_eq_self.2 fun x hx => by
        rw [List.mem_take_iff_getElem] at hx
        obtain ⟨t, ht, rfl⟩ := hx
        exact hlo t (by omega) (by omega)
    have HO1 := Lib.hid (HO.out.below hb1 (Nat.le_refl _))
    have HB1 := Lib.hid (grow_below (grown_same w (some g)) hb1 (Nat.le_refl _))
    have hi1 : (i : Int) + 1 ≤ (l.length : Int) := by omega
    have hw1 : IntKind.i64.wrap ((i : Int) + 1) = ((i + 1 : Nat) : Int) := by rw [wrap_small _ (by omega) (by omega)]; omega
    have hine : ((i : Int) == -1) = false := by simp
    have HFT := Lib.hid hft; clear hft
    clear hb1 hxi hlo hg hcl hct cur HIX HO hrow hcc
    go_wp2_with fail
    go_loopw [5, 6] (fun iv jv wr => ∃ (a j : Nat) (R : List Wr), a < j ∧ j ≤ l.length ∧ iv = .int .i64 a ∧ jv = .int .i64 j ∧ Hid (R.length = l.length) ∧ Hid (OwnMk wr base (.slice (some ⟨g, 0, none⟩) l.length c) R) ∧ Hid (R.take a = (l.take j).filter (fun x => keepB s x)) ∧ Hid (∀ t (_ : t < l.length), j ≤ t → R[t]? = l[t]?) ∧ Hid (w.grownBy wr (some g))) (fun _ jv _ => l.length - (intOf jv).toNat)
    case atStart => exact ⟨i, i + 1, l, by omega, by omega, rfl, by go_num, Lib.hid rfl, HO1, Lib.hid HFT.out.symm, Lib.hid (fun _ _ _ => rfl), HB1⟩
    case round =>
      obtain ⟨a, j, R, haj, hjl, rfl, rfl, HRL, HR, HT, HD, HB⟩ := hrel
      have hRl := HRL.out
      have hbw : base ≤ wr.heap.size := Nat.le_trans hbs HB.out.size
      clear hw1 hine hi1 HFT HO1 HB1
      by_cases hlt : j < l.length
      · have hRj : R[j]? = some l[j] := by rw [HD.out j hlt (Nat.le_refl _), List.getElem?_eq_getElem hlt]
        obtain ⟨hj2, hj3⟩ := List.getElem?_eq_some_iff.1 hRj
        obtain ⟨A2, c2, ev, _, hcells⟩ := RdW.at (HR.out.rd encW_len)
        obtain ⟨b2, o2, eA, _, k0, k1, k2⟩ := hcells j hj2
        injection ev with ev1 ev2 ev3
        rw [← ev1] at eA
        injection eA with eA
        injection eA with eb eo ep
        subst eb eo
        clear ev1 ev2 ev3 ep
        rw [hj3] at k0 k1 k2
        clear hcells hRj
        simp only [Nat.zero_add] at k0 k1 k2
        have hcc := HCL.out l[j] (wr.alloc (.cells #[.string l[j].s.1, .string l[j].s.2, .int .i64 l[j].v] 77)) (grow_alloc HB.out _)
        have hfs := filter_take_succ (fun x : Wr => keepB s x) l j hlt
        have hng : wr.heap.size ≠ g := by have := (HR.out.low (i := g) rfl).2; omega
        have hD2 : ∀ t (_ : t < l.length), j + 1 ≤ t → R[t]? = l[t]? := fun t ht h => HD.out t ht (by omega)
        cases hx : keepB s l[j] with
        | true =>
          rw [hx] at hcc hfs
          have hset : ∀ W, OwnMk W base (.slice (some ⟨g, 0, none⟩) l.length c) R → OwnMk (((W.setCell ⟨g, a * 3, none⟩ (.string l[j].s.1)).setCell ⟨g, a * 3 + 1, none⟩ (.string l[j].s.2)).setCell ⟨g, a * 3 + 2, none⟩ (.int .i64 l[j].v)) base (.slice (some ⟨g, 0, none⟩) l.length c) (R.set a l[j]) := fun W hW => by
            have ha : a < R.length := by omega
            have h1 := hW.setAt encW_len a 0 (.string l[j].s.1) ⟨(l[j].s.1, (R[a]'ha).s.2), (R[a]'ha).v⟩ ha (by omega) rfl
            have h2 := h1.setAt encW_len a 1 (.string l[j].s.2) ⟨(l[j].s.1, l[j].s.2), (R[a]'ha).v⟩ (by simpa using ha) (by omega) (by rw [List.getElem_set_self]; rfl)
            rw [List.set_set] at h2
            have h3 := h2.setAt encW_len a 2 (.int .i64 l[j].v) l[j] (by simpa using ha) (by omega) (by rw [List.getElem_set_self]; rfl)
            rw [List.set_set] at h3
            exact h3
          have hcell2 : ∀ W, OwnMk W base (.slice (some ⟨g, 0, none⟩) l.length c) R → (∃ u, W.cell? ⟨g, a * 3, none⟩ = some u) ∧ (∃ u, (W.setCell ⟨g, a * 3, none⟩ (.string l[j].s.1)).cell? ⟨g, a * 3 + 1, none⟩ = some u) ∧ (∃ u, ((W.setCell ⟨g, a * 3, none⟩ (.string l[j].s.1)).setCell ⟨g, a * 3 + 1, none⟩ (.string l[j].s.2)).cell? ⟨g, a * 3 + 2, none⟩ = some u) := fun W hW => by
            have ha : a < R.length := by omega
            obtain ⟨A3, c3, ev3, _, hc3⟩ := RdW.at (hW.rd encW_len)
            obtain ⟨b3, o3, eA3, _, m0, m1, m2⟩ := hc3 a ha
            injection ev3 with ev31 ev32 ev33
            rw [← ev31] at eA3
            injection eA3 with eA3
            injection eA3 with eb3 eo3 _
            subst eb3 eo3
            simp only [Nat.zero_add] at m0 m1 m2
            exact ⟨⟨_, m0⟩, ⟨_, (World.cell?_setCell_other W ⟨g, a * 3, none⟩ ⟨g, a * 3 + 1, none⟩ _ (by simp)).trans m1⟩, ⟨_, (World.cell?_setCell_other _ ⟨g, a * 3 + 1, none⟩ ⟨g, a * 3 + 2, none⟩ _ (by simp)).trans ((World.cell?_setCell_other W ⟨g, a * 3, none⟩ ⟨g, a * 3 + 2, none⟩ _ (by simp)).trans m2)⟩⟩
          have hT2 : (R.set a l[j]).take (a + 1) = (l.take (j + 1)).filter (fun x => keepB s x) := by
            rw [hfs, ← HT.out, List.take_add_one, List.getElem?_set_self (by omega), List.take_set_of_le (Nat.le_refl _)]
            simp
          have hD3 : ∀ t (_ : t < l.length), j + 1 ≤ t → (R.set a l[j])[t]? = l[t]? := fun t ht h => by rw [List.getElem?_set_ne (by omega)]; exact hD2 t ht h
          have hRl2 : (R.set a l[j]).length = l.length := by rw [List.length_set]; exact hRl
          generalize R.set a l[j] = R2 at hset hT2 hD3 hRl2
          have HRL2 := Lib.hid hRl2; clear hRl2 hRl
          clear hx hfs hj3 hj2 hD2
          generalize l[j] = z at k0 k1 k2 hcc hset hcell2
          obtain ⟨⟨zx, zy⟩, zv⟩ := z
          simp only [Bool.not_true] at k0 k1 k2 hcc hset hcell2
          have HCC := Lib.hid hcc; clear hcc
          have HSET := Lib.hid hset; clear hset
          have HC2 := Lib.hid hcell2; clear hcell2
          have HT2 := Lib.hid hT2; clear hT2
          have HD3 := Lib.hid hD3; clear hD3
          have hj5 : (j : Int) < (l.length : Int) := by omega
          go_wp2_with fail
          refine HCC.out.mono ?_
          rintro e w2 ⟨rfl, hb2⟩
          have hR2 : OwnMk w2 base (.slice (some ⟨g, 0, none⟩) l.length c) R := (HR.out.alloc _).below hb2 (Nat.le_refl _)
          have hv2 : Whole w2 wr.heap.size 77 [.string zx, .string zy, .int .i64 zv] := (Whole.fresh wr 77 [.string zx, .string zy, .int .i64 zv]).below hb2 (by simp)
          have hBw2 : w.grownBy w2 (some g) := grow_below (grow_alloc HB.out _) hb2 (by have := HB.out.size; simp; omega)
          obtain ⟨⟨u0, m0⟩, ⟨u1, m1⟩, ⟨u2, m2⟩⟩ := HC2.out w2 hR2
          have z0 := hR2.stand (a * 3)
          have z1 : (w2.setCell ⟨g, a * 3, none⟩ (.string zx)).frozen? ⟨g, a * 3 + 1, none⟩ = false := by rw [World.frozen?_setCell]; exact hR2.stand (a * 3 + 1)
          have z2 : ((w2.setCell ⟨g, a * 3, none⟩ (.string zx)).setCell ⟨g, a * 3 + 1, none⟩ (.string zy)).frozen? ⟨g, a * 3 + 2, none⟩ = false := by rw [World.frozen?_setCell, World.frozen?_setCell]; exact hR2.stand (a * 3 + 2)
          have n0 := hv2.cell 0 _ rfl
          have n1 := hv2.cell 1 _ rfl
          have n2 := hv2.cell 2 _ rfl
          have HR3 := Lib.hid (HSET.out w2 hR2)
          have HB3 := Lib.hid (grow_set (grow_set (grow_set hBw2 (a * 3) (.string zx)) (a * 3 + 1) (.string zy)) (a * 3 + 2) (.int .i64 zv))
          have ha5 : (a : Int) < (l.length : Int) := by omega
          clear hb2 hR2 hv2 hBw2 k0 k1 k2 hng
          go_wp2_with fail
          go_roundw
          case rel => exact ⟨a + 1, j + 1, R2, by omega, by omega, by go_num, by go_num, HRL2, HR3, HT2, HD3, HB3⟩
          case measure => simp [intOf]; omega
        | false =>
          rw [hx] at hcc hfs
          simp only [Bool.false_eq_true, if_false, List.append_nil] at hfs
          have HT2 := Lib.hid (show R.take a = (l.take (j + 1)).filter (fun x => keepB s x) by rw [hfs]; exact HT.out)
          have HD3 := Lib.hid hD2; clear hD2 hfs hx hj3 hj2 hRl
          generalize l[j] = z at k0 k1 k2 hcc
          obtain ⟨⟨zx, zy⟩, zv⟩ := z
          simp only [Bool.not_false] at k0 k1 k2 hcc
          have HCC := Lib.hid hcc; clear hcc
          have hj5 : (j : Int) < (l.length : Int) := by omega
          go_wp2_with fail
          refine HCC.out.mono ?_
          rintro e w2 ⟨rfl, hb2⟩
          have HR3 := Lib.hid (show OwnMk w2 base (.slice (some ⟨g, 0, none⟩) l.length c) R from (HR.out.alloc _).below hb2 (Nat.le_refl _))
          have HB3 := Lib.hid (show w.grownBy w2 (some g) from grow_below (grow_alloc HB.out _) hb2 (by have := HB.out.size; simp; omega))
          clear hb2 k0 k1 k2 hng
          go_wp2_with fail
          go_roundw
          case rel => exact ⟨a, j + 1, R, by omega, by omega, rfl, by go_num, HRL, HR3, HT2, HD3, HB3⟩
          case measure => simp [intOf]; omega
      · obtain rfl : j = l.length := by omega
        rw [List.take_length] at HT
        obtain ⟨g', cap', cur, ev, _, hg, _, hcm', hcl, hct⟩ := HR.out.row.resolve_left (fun h => by rw [h.2] at hRl; simp at hRl; omega)
        injection ev with ev1 ev2 ev3
        injection ev1 with ev1
        injection ev1 with ev1
        subst ev1 ev3
        clear ev2
        rw [hRl] at hct
        have HG := Lib.hid hg; clear hg
        have HCL2 := Lib.hid hcl; clear hcl
        have HCT := Lib.hid hct; clear hct
        have ha1 : (a : Int) ≤ (l.length : Int) := by omega
        have ha2 : (a : Int) ≤ (c : Int) := by omega
        have ha3 : ¬ c = a := by omega
        have hfl : (l.filter fun x => keepB s x).length = a := by rw [← HT.out, List.length_take]; omega
        have HFL := Lib.hid hfl; clear hfl
        unfold maxLen at hcm
        clear hRl
        go_wp2_with (with_reducible show wpList _ _ _ (⟨none, _, _, _, _, _⟩ :: _) _ _; go_must (refine wpList_clearP rfl _ rfl g (a * 3) cur _ _ _ rfl HG.out (fun _ => rfl) ?d1 ?_))
        case d1 => rw [HCL2.out]; omega
        intro w2 zs hz hm2
        have HZ := Lib.hid hz; clear hz
        go_wp2_with fail
        go_ret
        refine ⟨some ⟨g, 0, none⟩, c, by rw [HFL.out]; rfl, ?_, grown_trans' HB.out hm2.out.grown, rfl⟩
        rw [HFL.out]
        have hown := Own.ofRow (e := 77) encW_len (l.filter fun x => keepB s x) hbg hm2.out.whole (cap := c) (by rw [HFL.out]; omega) (by unfold maxLen; omega) (by rw [length_splice _ _ _ (by rw [HZ.out, HCL2.out]; omega), HCL2.out]) (by
          rw [HFL.out, take_splice_lt cur _ _ _ (Nat.le_refl _) (by rw [HCL2.out]; omega), ← HT.out, flatG_take encW_len, ← HCT.out, List.take_take, Nat.min_eq_left (by omega)])
        rw [HFL.out] at hown
        exact hown
theorem cmp_neg (a b : K) : (cmpKey a b < 0) ↔ a < b := by
  unfold cmpKey
  by_cases h1 : a < b
  · simp [h1]
  · by_cases h2 : b < a <;> simp [h1, h2]

theorem cmp_zero (a b : K) : (cmpKey a b = 0) ↔ a = b := by
  unfold cmpKey
  by_cases h1 : a < b
  · simp [h1]; grind
  · by_cases h2 : b < a
    · simp [h1, h2]; grind
    · simp [h1, h2]; grind

set_option maxHeartbeats 1000000 in
set_option maxRecDepth 100000 in
theorem besidecl1_any (x : Wr) (k : K) (w : World) : Calls Tryz.prog 62 #[.agg #[.string x.s.1, .string x.s.2, .int .i64 x.v], .string k] w fun e w' => e = .returned (.int .i64 (cmpKey x.s.2 k)) ∧ Below w.heap.size w w' := by
  have hcon := fun W' => compare_any x.s.2 k W'
  generalize cmpKey x.s.2 k = r at hcon ⊢
  go_enter Tryz.func62, Tryz.ntmps62
  go_wp2_with (go_at_call 51; refine (hcon _).mono ?_; rintro e w' ⟨rfl, rfl⟩)
  go_ret
  exact ⟨rfl, (Below.refl _ _).alloc (Nat.le_refl _) _⟩

set_option maxHeartbeats 1000000 in
set_option maxRecDepth 100000 in
theorem besidecl2_any (x : Wr) (k : K) (w : World) : Calls Tryz.prog 63 #[.agg #[.string x.s.1, .string x.s.2, .int .i64 x.v], .string k] w fun e w' => e = .returned (.int .i64 (cmpKey x.s.1 k)) ∧ Below w.heap.size w w' := by
  have hcon := fun W' => compare_any x.s.1 k W'
  generalize cmpKey x.s.1 k = r at hcon ⊢
  go_enter Tryz.func63, Tryz.ntmps63
  go_wp2_with (go_at_call 51; refine (hcon _).mono ?_; rintro e w' ⟨rfl, rfl⟩)
  go_ret
  exact ⟨rfl, (Below.refl _ _).alloc (Nat.le_refl _) _⟩

set_option maxHeartbeats 4000000 in
set_option maxRecDepth 100000 in
theorem bsearch1_any (l : List Wr) (hr : l.Pairwise fun x y => x.s.2 < y.s.2) (k : K) (v : Value) (w : World) (hv : RdW w w.heap.size v l) (hl : l.length < 4611686018427387904) :
    Calls Tryz.prog 61 #[v, .string k, .func (.func 62) #[] #[]] w fun e w' => ∃ i : Nat, i ≤ l.length ∧ (∀ t (_ : t < l.length), t < i → l[t].s.2 < k) ∧ (∀ t (_ : t < l.length), i ≤ t → ¬ l[t].s.2 < k) ∧ ∃ b, e = .returned (.tuple #[.int .i64 (i : Nat), .bool b]) ∧ (b = true ↔ ∃ h : i < l.length, l[i].s.2 = k) ∧ Below w.heap.size w w' := by
  obtain ⟨A, c, rfl, hc, hi⟩ := hv.at
  have HI := Lib.hid hi; clear hi
  have HR := Lib.hid hr; clear hr
  clear hv
  obtain ⟨g, hg⟩ : ∃ g, g = w.heap.size := ⟨_, rfl⟩
  have HG := Lib.hid hg; clear hg
  have hcl := fun (x : Wr) (W : World) => besidecl1_any x k W
  have HC := Lib.hid hcl; clear hcl
  go_enter Tryz.func61, Tryz.ntmps61
  go_wp2_with fail
  go_loopg [9, 10] l.length (fun kx s9 s10 wr => ∃ lo hi : Nat, s9 = .int .i64 lo ∧ s10 = .int .i64 hi ∧ lo ≤ hi ∧ hi ≤ l.length ∧ hi - lo ≤ kx ∧ Hid (Below g w wr) ∧
    Hid ((∀ t (_ : t < l.length), t < lo → l[t].s.2 < k) ∧ (∀ t (_ : t < l.length), hi ≤ t → ¬ l[t].s.2 < k)))
  case atStart => exact ⟨0, l.length, rfl, rfl, Nat.zero_le _, Nat.le_refl _, by omega, Lib.hid (Below.refl _ _), Lib.hid ⟨fun t _ ht => absurd ht (Nat.not_lt_zero _), fun t h1 h2 => by omega⟩⟩
  case round =>
    obtain ⟨lo, hi, rfl, rfl, hlh, hin, hgk, HB, HM⟩ := hrel
    by_cases hlt : lo < hi
    · have hh : (lo + hi) / 2 < l.length := by omega
      obtain ⟨b, o, rfl, hbB, k0, k1, k2⟩ := HI.out ((lo + hi) / 2) hh
      rw [← HB.out.cell (p := ⟨b, _, none⟩) (by rw [HG.out]; exact hbB)] at k0
      rw [← HB.out.cell (p := ⟨b, _, none⟩) (by rw [HG.out]; exact hbB)] at k1
      rw [← HB.out.cell (p := ⟨b, _, none⟩) (by rw [HG.out]; exact hbB)] at k2
      have hmid : ∀ t (_ : t < l.length), (t < (lo + hi) / 2 → l[t].s.2 < l[(lo + hi) / 2].s.2) ∧ ((lo + hi) / 2 < t → l[(lo + hi) / 2].s.2 < l[t].s.2) := fun t ht => ⟨fun h => List.pairwise_iff_getElem.1 HR.out t _ ht hh h, fun h => List.pairwise_iff_getElem.1 HR.out _ t hh ht h⟩
      have HMID := Lib.hid hmid; clear hmid
      have hcc := HC.out l[(lo + hi) / 2]
      have hneg := cmp_neg l[(lo + hi) / 2].s.2 k
      by_cases hx : l[(lo + hi) / 2].s.2 < k
      · have hlo : ∀ t (_ : t < l.length), t < (lo + hi) / 2 + 1 → l[t].s.2 < k := fun t ht h => by
          rcases Nat.lt_or_ge t ((lo + hi) / 2) with h1 | h1
          · have := (HMID.out t ht).1 h1; grind
          · have e : t = (lo + hi) / 2 := by omega
            subst e; exact hx
        have HLO := Lib.hid hlo; clear hlo
        have hneg2 := hneg.2 hx
        clear hneg hx HMID
        generalize cmpKey l[(lo + hi) / 2].s.2 k = r at hcc hneg2
        generalize l[(lo + hi) / 2] = z at k0 k1 k2 hcc
        have HCC := Lib.hid hcc; clear hcc
        go_wp2_with fail
        refine (HCC.out _).mono ?_
        rintro e w2 ⟨rfl, hbn⟩
        have HB2 := Lib.hid (show Below g w w2 from HB.out.trans (hbn.mono (by rw [HG.out]; exact HB.out.size))); clear hbn
        clear k0 k1 k2
        go_wp2_with fail
        go_roundg (hi - ((lo + hi) / 2 + 1))
        case measure => omega
        case rel => exact ⟨(lo + hi) / 2 + 1, hi, by rw [show ((lo : Int) + (hi : Int)) / 2 + 1 = (((lo + hi) / 2 + 1 : Nat) : Int) by omega], rfl, by omega, hin, Nat.le_refl _, HB2, Lib.hid ⟨HLO.out, HM.out.2⟩⟩
      · have hhi : ∀ t (_ : t < l.length), (lo + hi) / 2 ≤ t → ¬ l[t].s.2 < k := fun t ht h => by
          rcases Nat.lt_or_ge ((lo + hi) / 2) t with h1 | h1
          · have := (HMID.out t ht).2 h1; grind
          · have e : t = (lo + hi) / 2 := by omega
            subst e; exact hx
        have HHI := Lib.hid hhi; clear hhi
        have hneg2 : ¬ cmpKey l[(lo + hi) / 2].s.2 k < 0 := fun h => hx (hneg.1 h)
        clear hneg hx HMID
        generalize cmpKey l[(lo + hi) / 2].s.2 k = r at hcc hneg2
        generalize l[(lo + hi) / 2] = z at k0 k1 k2 hcc
        have HCC := Lib.hid hcc; clear hcc
        go_wp2_with fail
        refine (HCC.out _).mono ?_
        rintro e w2 ⟨rfl, hbn⟩
        have HB2 := Lib.hid (show Below g w w2 from HB.out.trans (hbn.mono (by rw [HG.out]; exact HB.out.size))); clear hbn
        clear k0 k1 k2
        go_wp2_with fail
        go_roundg ((lo + hi) / 2 - lo)
        case measure => omega
        case rel => exact ⟨lo, (lo + hi) / 2, rfl, by rw [show ((lo : Int) + (hi : Int)) / 2 = (((lo + hi) / 2 : Nat) : Int) by omega], by omega, by omega, Nat.le_refl _, HB2, Lib.hid ⟨HM.out.1, HHI.out⟩⟩
    · obtain rfl : hi = lo := by omega
      by_cases hn : hi < l.length
      · obtain ⟨b, o, rfl, hbB, k0, k1, k2⟩ := HI.out hi hn
        rw [← HB.out.cell (p := ⟨b, _, none⟩) (by rw [HG.out]; exact hbB)] at k0
        rw [← HB.out.cell (p := ⟨b, _, none⟩) (by rw [HG.out]; exact hbB)] at k1
        rw [← HB.out.cell (p := ⟨b, _, none⟩) (by rw [HG.out]; exact hbB)] at k2
        have hcc := HC.out l[hi]
        have hiff : (cmpKey (l[hi].s.2) k = 0) ↔ ∃ h : hi < l.length, l[hi].s.2 = k := (cmp_zero _ _).trans ⟨fun h => ⟨hn, h⟩, fun ⟨_, h⟩ => h⟩
        generalize cmpKey (l[hi].s.2) k = r at hcc hiff
        generalize l[hi] = z at k0 k1 k2 hcc
        have HCC := Lib.hid hcc; clear hcc
        have HIF := Lib.hid hiff; clear hiff
        go_wp2_with fail
        refine (HCC.out _).mono ?_
        rintro e w2 ⟨rfl, hbn⟩
        have HB2 := Lib.hid (show Below g w w2 from HB.out.trans (hbn.mono (by rw [HG.out]; exact HB.out.size))); clear hbn
        clear k0 k1 k2
        go_wp2_with fail
        go_ret2
        exact ⟨hi, hin, HM.out.1, HM.out.2, _, rfl, by simpa using HIF.out, by have h := HB2.out; rwa [HG.out] at h⟩
      · go_wp2_with fail
        go_ret2
        exact ⟨hi, hin, HM.out.1, HM.out.2, _, rfl, ⟨fun h => by simp at h, fun ⟨h, _⟩ => absurd h hn⟩, by have h := HB.out; rwa [HG.out] at h⟩
set_option maxHeartbeats 4000000 in
set_option maxRecDepth 100000 in
theorem bsearch2_any (l : List Wr) (hr : l.Pairwise fun x y => x.s.1 < y.s.1) (k : K) (v : Value) (w : World) (hv : RdW w w.heap.size v l) (hl : l.length < 4611686018427387904) :
    Calls Tryz.prog 61 #[v, .string k, .func (.func 63) #[] #[]] w fun e w' => ∃ i : Nat, i ≤ l.length ∧ (∀ t (_ : t < l.length), t < i → l[t].s.1 < k) ∧ (∀ t (_ : t < l.length), i ≤ t → ¬ l[t].s.1 < k) ∧ ∃ b, e = .returned (.tuple #[.int .i64 (i : Nat), .bool b]) ∧ (b = true ↔ ∃ h : i < l.length, l[i].s.1 = k) ∧ Below w.heap.size w w' := by
  obtain ⟨A, c, rfl, hc, hi⟩ := hv.at
  have HI := Lib.hid hi; clear hi
  have HR := Lib.hid hr; clear hr
  clear hv
  obtain ⟨g, hg⟩ : ∃ g, g = w.heap.size := ⟨_, rfl⟩
  have HG := Lib.hid hg; clear hg
  have hcl := fun (x : Wr) (W : World) => besidecl2_any x k W
  have HC := Lib.hid hcl; clear hcl
  go_enter Tryz.func61, Tryz.ntmps61
  go_wp2_with fail
  go_loopg [9, 10] l.length (fun kx s9 s10 wr => ∃ lo hi : Nat, s9 = .int .i64 lo ∧ s10 = .int .i64 hi ∧ lo ≤ hi ∧ hi ≤ l.length ∧ hi - lo ≤ kx ∧ Hid (Below g w wr) ∧
    Hid ((∀ t (_ : t < l.length), t < lo → l[t].s.1 < k) ∧ (∀ t (_ : t < l.length), hi ≤ t → ¬ l[t].s.1 < k)))
  case atStart => exact ⟨0, l.length, rfl, rfl, Nat.zero_le _, Nat.le_refl _, by omega, Lib.hid (Below.refl _ _), Lib.hid ⟨fun t _ ht => absurd ht (Nat.not_lt_zero _), fun t h1 h2 => by omega⟩⟩
  case round =>
    obtain ⟨lo, hi, rfl, rfl, hlh, hin, hgk, HB, HM⟩ := hrel
    by_cases hlt : lo < hi
    · have hh : (lo + hi) / 2 < l.length := by omega
      obtain ⟨b, o, rfl, hbB, k0, k1, k2⟩ := HI.out ((lo + hi) / 2) hh
      rw [← HB.out.cell (p := ⟨b, _, none⟩) (by rw [HG.out]; exact hbB)] at k0
      rw [← HB.out.cell (p := ⟨b, _, none⟩) (by rw [HG.out]; exact hbB)] at k1
      rw [← HB.out.cell (p := ⟨b, _, none⟩) (by rw [HG.out]; exact hbB)] at k2
      have hmid : ∀ t (_ : t < l.length), (t < (lo + hi) / 2 → l[t].s.1 < l[(lo + hi) / 2].s.1) ∧ ((lo + hi) / 2 < t → l[(lo + hi) / 2].s.1 < l[t].s.1) := fun t ht => ⟨fun h => List.pairwise_iff_getElem.1 HR.out t _ ht hh h, fun h => List.pairwise_iff_getElem.1 HR.out _ t hh ht h⟩
      have HMID := Lib.hid hmid; clear hmid
      have hcc := HC.out l[(lo + hi) / 2]
      have hneg := cmp_neg l[(lo + hi) / 2].s.1 k
      by_cases hx : l[(lo + hi) / 2].s.1 < k
      · have hlo : ∀ t (_ : t < l.length), t < (lo + hi) / 2 + 1 → l[t].s.1 < k := fun t ht h => by
          rcases Nat.lt_or_ge t ((lo + hi) / 2) with h1 | h1
          · have := (HMID.out t ht).1 h1; grind
          · have e : t = (lo + hi) / 2 := by omega
            subst e; exact hx
        have HLO := Lib.hid hlo; clear hlo
        have hneg2 := hneg.2 hx
        clear hneg hx HMID
        generalize cmpKey l[(lo + hi) / 2].s.1 k = r at hcc hneg2
        generalize l[(lo + hi) / 2] = z at k0 k1 k2 hcc
        have HCC := Lib.hid hcc; clear hcc
        go_wp2_with fail
        refine (HCC.out _).mono ?_
        rintro e w2 ⟨rfl, hbn⟩
        have HB2 := Lib.hid (show Below g w w2 from HB.out.trans (hbn.mono (by rw [HG.out]; exact HB.out.size))); clear hbn
        clear k0 k1 k2
        go_wp2_with fail
        go_roundg (hi - ((lo + hi) / 2 + 1))
        case measure => omega
        case rel => exact ⟨(lo + hi) / 2 + 1, hi, by rw [show ((lo : Int) + (hi : Int)) / 2 + 1 = (((lo + hi) / 2 + 1 : Nat) : Int) by omega], rfl, by omega, hin, Nat.le_refl _, HB2, Lib.hid ⟨HLO.out, HM.out.2⟩⟩
      · have hhi : ∀ t (_ : t < l.length), (lo + hi) / 2 ≤ t → ¬ l[t].s.1 < k := fun t ht h => by
          rcases Nat.lt_or_ge ((lo + hi) / 2) t with h1 | h1
          · have := (HMID.out t ht).2 h1; grind
          · have e : t = (lo + hi) / 2 := by omega
            subst e; exact hx
        have HHI := Lib.hid hhi; clear hhi
        have hneg2 : ¬ cmpKey l[(lo + hi) / 2].s.1 k < 0 := fun h => hx (hneg.1 h)
        clear hneg hx HMID
        generalize cmpKey l[(lo + hi) / 2].s.1 k = r at hcc hneg2
        generalize l[(lo + hi) / 2] = z at k0 k1 k2 hcc
        have HCC := Lib.hid hcc; clear hcc
        go_wp2_with fail
        refine (HCC.out _).mono ?_
        rintro e w2 ⟨rfl, hbn⟩
        have HB2 := Lib.hid (show Below g w w2 from HB.out.trans (hbn.mono (by rw [HG.out]; exact HB.out.size))); clear hbn
        clear k0 k1 k2
        go_wp2_with fail
        go_roundg ((lo + hi) / 2 - lo)
        case measure => omega
        case rel => exact ⟨lo, (lo + hi) / 2, rfl, by rw [show ((lo : Int) + (hi : Int)) / 2 = (((lo + hi) / 2 : Nat) : Int) by omega], by omega, by omega, Nat.le_refl _, HB2, Lib.hid ⟨HM.out.1, HHI.out⟩⟩
    · obtain rfl : hi = lo := by omega
      by_cases hn : hi < l.length
      · obtain ⟨b, o, rfl, hbB, k0, k1, k2⟩ := HI.out hi hn
        rw [← HB.out.cell (p := ⟨b, _, none⟩) (by rw [HG.out]; exact hbB)] at k0
        rw [← HB.out.cell (p := ⟨b, _, none⟩) (by rw [HG.out]; exact hbB)] at k1
        rw [← HB.out.cell (p := ⟨b, _, none⟩) (by rw [HG.out]; exact hbB)] at k2
        have hcc := HC.out l[hi]
        have hiff : (cmpKey (l[hi].s.1) k = 0) ↔ ∃ h : hi < l.length, l[hi].s.1 = k := (cmp_zero _ _).trans ⟨fun h => ⟨hn, h⟩, fun ⟨_, h⟩ => h⟩
        generalize cmpKey (l[hi].s.1) k = r at hcc hiff
        generalize l[hi] = z at k0 k1 k2 hcc
        have HCC := Lib.hid hcc; clear hcc
        have HIF := Lib.hid hiff; clear hiff
        go_wp2_with fail
        refine (HCC.out _).mono ?_
        rintro e w2 ⟨rfl, hbn⟩
        have HB2 := Lib.hid (show Below g w w2 from HB.out.trans (hbn.mono (by rw [HG.out]; exact HB.out.size))); clear hbn
        clear k0 k1 k2
        go_wp2_with fail
        go_ret2
        exact ⟨hi, hin, HM.out.1, HM.out.2, _, rfl, by simpa using HIF.out, by have h := HB2.out; rwa [HG.out] at h⟩
      · go_wp2_with fail
        go_ret2
        exact ⟨hi, hin, HM.out.1, HM.out.2, _, rfl, ⟨fun h => by simp at h, fun ⟨h, _⟩ => absurd h hn⟩, by have h := HB.out; rwa [HG.out] at h⟩
end Go.Proofs.YtgppgecglkellaaGreat
namespace Go.Proofs.YtgppgecglkellaaGreat

theorem ver_in : ∀ (R : List (K × K)) (L : List Wr) (v : Int) (k : K), mem R k → ver (L ++ R.map fun s => ⟨s, v⟩) k = v
  | [], L, v, k, h => absurd h (mem_nil k)
  | s :: R, L, v, k, h => by
    rw [List.map_cons, show L ++ (⟨s, v⟩ : Wr) :: R.map (fun s => ⟨s, v⟩) = (L ++ [⟨s, v⟩]) ++ R.map (fun s => ⟨s, v⟩) by simp]
    by_cases hr : mem R k
    · exact ver_in R _ v k hr
    · rw [ver_pass _ _ _ (fun y hy hk => by
        obtain ⟨u, hu, rfl⟩ := List.mem_map.1 hy
        exact hr ⟨u, hu, hk⟩), ver_snoc]
      rcases (mem_cons s R k).1 h with h1 | h1
      · rw [if_pos h1]
      · exact absurd h1 hr
theorem ver_out (R : List (K × K)) (L : List Wr) (v : Int) (k : K) (h : ¬ mem R k) : ver (L ++ R.map fun s => ⟨s, v⟩) k = ver L k :=
  ver_pass _ _ _ fun y hy hk => by
    obtain ⟨u, hu, rfl⟩ := List.mem_map.1 hy
    exact h ⟨u, hu, hk⟩
theorem normal_pair {R : List (K × K)} (h : Normal R) : R.Pairwise fun s t => s.2 < t.1 := by
  induction R with
  | nil => exact .nil
  | cons s r ih => exact .cons (fun t ht => h.2.1 t ht) (ih h.2.2)
theorem fits_nil {R : List (K × K)} {P : K → Prop} (h : Fits R P) : R = [] ↔ ¬ ∃ k, P k := by
  constructor
  · rintro rfl ⟨k, hk⟩
    exact mem_nil k ((h.2 k).2 hk)
  · intro hn
    cases R with
    | nil => rfl
    | cons s r => exact absurd ⟨s.1, (h.2 _).1 ⟨s, by simp, Std.IsPreorder.le_refl _, h.1.1⟩⟩ hn
open Classical in
/-- the keys of spans, as if they were written at 1 -/
noncomputable def asOne (P : K → Prop) (k : K) : Int := if P k then 1 else 0
theorem fits_pieces {R : List (K × K)} {P : K → Prop} (h : Fits R P) : Pieces (asOne P) 0 (R.map fun s => ⟨s, 1⟩) := by
  refine ⟨fun x hx => ?_, fun k hk => ?_, fun x hx k hk => ?_, ?_⟩
  · obtain ⟨s, hs, rfl⟩ := List.mem_map.1 hx
    exact ⟨h.1.ne s hs, by simp⟩
  · unfold asOne at hk
    split at hk
    · rename_i hp
      obtain ⟨s, hs, h1⟩ := (h.2 k).2 hp
      exact ⟨_, List.mem_map.2 ⟨s, hs, rfl⟩, h1⟩
    · omega
  · obtain ⟨s, hs, rfl⟩ := List.mem_map.1 hx
    unfold asOne
    rw [if_pos ((h.2 k).1 ⟨s, hs, hk⟩)]
  · rw [List.pairwise_map]
    refine (normal_pair h.1).imp ?_
    intro s t hst k h1 h2
    unfold has at h1 h2
    grind
theorem fits_len {R l : List (K × K)} (h : Fits R (fun k => mem l k)) : R.length ≤ l.length := by
  have hp := fits_pieces h
  have hnd : (R.map (·.1)).Nodup := by
    rw [List.nodup_iff_pairwise_ne, List.pairwise_map]
    refine (normal_pair h.1).imp_of_mem ?_
    intro s t hs ht hst e
    have := h.1.ne s hs
    grind
  have hsub : ∀ k ∈ R.map (·.1), k ∈ l.map (·.1) := fun k hk => by
    obtain ⟨s, hs, rfl⟩ := List.mem_map.1 hk
    have hst : isStart (asOne (fun k => mem l k)) 0 s.1 := by
      refine (hp.start s.1).2 ⟨⟨s, 1⟩, List.mem_map.2 ⟨s, hs, rfl⟩, rfl, fun y hy hye => ?_⟩
      obtain ⟨t, ht, rfl⟩ := List.mem_map.1 hy
      have e1 : t.2 = s.1 := hye.1
      have t1 := h.1.ne t ht
      have s1 := h.1.ne s hs
      by_cases e : s = t
      · subst e; grind
      · obtain ⟨i, hi, rfl⟩ := List.mem_iff_getElem.1 hs
        obtain ⟨j, hj, rfl⟩ := List.mem_iff_getElem.1 ht
        have hq := List.pairwise_iff_getElem.1 (normal_pair h.1)
        rcases Nat.lt_trichotomy i j with hij | hij | hij
        · have := hq i j hi hj hij; grind
        · subst hij; exact e rfl
        · have := hq j i hj hi hij; grind
    obtain ⟨h1, h2⟩ := hst
    have hm : mem l s.1 := (h.2 _).1 ⟨s, hs, Std.IsPreorder.le_refl _, h.1.ne s hs⟩
    obtain ⟨u, hu, huk⟩ := hm
    by_cases hlt : u.1 < s.1
    · exfalso
      obtain ⟨x, hx1, hx2, hx3⟩ := h2 u.1 hlt
      refine hx3 ?_
      unfold asOne
      rw [if_pos (show mem l x from ⟨u, hu, hx1, by unfold has at huk; grind⟩), if_pos (show mem l s.1 from ⟨u, hu, huk⟩)]
    · refine List.mem_map.2 ⟨u, hu, ?_⟩
      unfold has at huk
      grind
  have := nodup_len _ _ hnd hsub
  simpa using this
theorem wrote_f {m : Mk} {L R : List (_)} {t : Txn} {v : Int} (hL : ver L = m.f) (h : Fits R (keysOf t)) : (wrote m v t).f = ver (L ++ R.map fun s => ⟨s, v⟩) ∧ (wrote m v t).most = if R = [] then m.most else v := by
  unfold wrote
  constructor
  · funext k
    simp only
    by_cases hk : keysOf t k
    · rw [if_pos hk, ver_in R L v k ((h.2 k).2 hk)]
    · rw [if_neg hk, ver_out R L v k (fun hm => hk ((h.2 k).1 hm)), hL]
  · simp only
    by_cases he : ∃ k, keysOf t k
    · rw [if_pos he, if_neg (fun e => (fits_nil h).1 e he)]
    · rw [if_neg he, if_pos ((fits_nil h).2 he)]
end Go.Proofs.YtgppgecglkellaaGreat
