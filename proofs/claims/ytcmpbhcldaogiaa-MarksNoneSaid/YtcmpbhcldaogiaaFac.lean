/- slices.DeleteFunc over marks, with the closure of Forget; slices.BinarySearchFunc with those of beside. Spans that are written at one version, behind what was written: pure. What the program keeps of marks, as a list: pure. The program's Marks as a state of the heap; New, Size, newest, beside, Last, Forget. The program's beside and Last; Forget. The program's Last and Forget. -/
import Derived.Test.YtcmpbhcldaogiaaFab
import Derived.Deep.LoopGhost
import Derived.Lib.MinMax
namespace Go.Proofs.Ytcmpbhcldaogiaa
open Go.RowKit
attribute [local go_sem] less_eq same_eq le_eq ge_eq gt_eq

/-- what Forget keeps -/
def keepB (v : Int) (x : Wr) : Bool := !decide (x.v ≤ v)
theorem grown_same (w : World) (row : Option Nat) : w.grownBy w row := ⟨rfl, rfl, rfl, Nat.le_refl _, fun _ _ _ => rfl⟩
theorem grown_trans' {a b c : World} {row : Option Nat} (h1 : a.grownBy b row) (h2 : b.grownBy c row) : a.grownBy c row :=
  ⟨h2.os.trans h1.os, h2.tape.trans h1.tape, h2.output.trans h1.output, Nat.le_trans h1.size h2.size, fun k hk hn => (h2.block k (Nat.lt_of_lt_of_le hk h1.size) hn).trans (h1.block k hk hn)⟩
theorem grown_cell {w w' : World} {row : Option Nat} (h : w.grownBy w' row) {p : Addr} (hp : p.block < w.heap.size) (hr : row ≠ some p.block) : w'.cell? p = w.cell? p := by
  have := h.block p.block hp (Ne.symm hr)
  unfold World.cell?
  rw [this]

set_option maxHeartbeats 1000000 in
set_option maxRecDepth 100000 in
theorem forgetcl_any (s : Int) (x : Wr) (B : Nat) (w : World) (h0 : w.cell? ⟨B, 0, none⟩ = some (.int .i64 s)) :
    Calls Try.prog 24 #[.agg #[.string x.s.1, .string x.s.2, .int .i64 x.v], .pointer (some ⟨B, 0, none⟩)] w fun e w' => e = .returned (.bool (!keepB s x)) ∧ Below w.heap.size w w' := by
  have e : (!keepB s x) = decide (x.v ≤ s) := by simp [keepB]
  rw [e]
  clear e
  have h0' := (World.cell?_alloc_some w ⟨B, 0, none⟩ (.cells #[.string x.s.1, .string x.s.2, .int .i64 x.v] 60) (by rw [h0]; rfl)).trans h0
  clear h0
  go_enter Try.func24, Try.ntmps24
  go_wp2_with fail
  go_ret
  exact ⟨rfl, (Below.refl _ w).alloc (Nat.le_refl _) _⟩

set_option maxHeartbeats 4000000 in
set_option maxRecDepth 100000 in
theorem index_any (s : Int) (B : Nat) (l : List Wr) (v : Value) (w : World) (hB : B < w.heap.size) (h0 : w.cell? ⟨B, 0, none⟩ = some (.int .i64 s)) (hv : RdW w w.heap.size v l) (hl : l.length < 4611686018427387904) :
    Calls Try.prog 33 #[v, .func (.func 24) #[] #[.pointer (some ⟨B, 0, none⟩)]] w fun e w' =>
      ((e = .returned (.int .i64 (-1)) ∧ ∀ t (_ : t < l.length), keepB s l[t] = true) ∨ (∃ i, ∃ hi : i < l.length, e = .returned (.int .i64 (i : Nat)) ∧ keepB s l[i] = false ∧ ∀ t (_ : t < l.length), t < i → keepB s l[t] = true)) ∧ Below w.heap.size w w' := by
  obtain ⟨A, c, rfl, hc, hi⟩ := hv.at
  have HI := Lib.hid hi; clear hi
  clear hv
  obtain ⟨g, hg⟩ : ∃ g, g = w.heap.size := ⟨_, rfl⟩
  have HG := Lib.hid hg
  have hbg : B < g := by omega
  clear hg
  have hcl := fun (x : Wr) W (hW : Below g w W) => forgetcl_any s x B W ((hW.cell (p := ⟨B, 0, none⟩) hbg).trans h0)
  have HCL := Lib.hid hcl; clear hcl h0
  go_enter Try.func33, Try.ntmps33
  go_wp2_with fail
  go_loopw [8] (fun iv wr => ∃ i : Nat, i ≤ l.length ∧ iv = .int .i64 i ∧ Hid (Below g w wr) ∧ Hid (∀ t (_ : t < l.length), t < i → keepB s l[t] = true)) (fun iv _ => l.length - (intOf iv).toNat)
  case atStart => exact ⟨0, Nat.zero_le _, rfl, Lib.hid (Below.refl _ _), Lib.hid (fun t _ h => absurd h (Nat.not_lt_zero _))⟩
  case round =>
    obtain ⟨i, hil, rfl, HBW, HP⟩ := hrel
    by_cases hlt : i < l.length
    · obtain ⟨b, o, rfl, hbB, k0, k1, k2⟩ := HI.out i hlt
      rw [← HBW.out.cell (p := ⟨b, _, none⟩) (by rw [HG.out]; exact hbB)] at k0
      rw [← HBW.out.cell (p := ⟨b, _, none⟩) (by rw [HG.out]; exact hbB)] at k1
      rw [← HBW.out.cell (p := ⟨b, _, none⟩) (by rw [HG.out]; exact hbB)] at k2
      have hcc := HCL.out l[i] wr HBW.out
      cases hx : keepB s l[i] with
      | true =>
        rw [hx] at hcc
        have hp : ∀ t (_ : t < l.length), t < i + 1 → keepB s l[t] = true := fun t ht h => by
          rcases Nat.lt_or_ge t i with h2 | h2
          · exact HP.out t ht h2
          · have e : t = i := by omega
            subst e; exact hx
        have HP2 := Lib.hid hp; clear hp hx
        generalize l[i] = z at k0 k1 k2 hcc
        obtain ⟨⟨zx, zy⟩, zv⟩ := z
        simp only [Bool.not_true] at k0 k1 k2 hcc
        have HCC := Lib.hid hcc; clear hcc
        go_wp2_with fail
        refine HCC.out.mono ?_
        rintro e w2 ⟨rfl, hb2⟩
        have HB2 := Lib.hid (HBW.out.trans (hb2.mono (by rw [HG.out]; exact HBW.out.size)))
        clear hb2 k0 k1 k2
        go_wp2_with fail
        go_roundw
        case rel => exact ⟨i + 1, by omega, by go_num, HB2, HP2⟩
        case measure => simp [intOf]; omega
      | false =>
        rw [hx] at hcc
        have HX := Lib.hid hx; clear hx
        have HPP := Lib.hid (show keepB s l[i] = false from HX.out)
        generalize l[i] = z at k0 k1 k2 hcc
        obtain ⟨⟨zx, zy⟩, zv⟩ := z
        simp only [Bool.not_false] at k0 k1 k2 hcc
        have HCC := Lib.hid hcc; clear hcc
        go_wp2_with fail
        refine HCC.out.mono ?_
        rintro e w2 ⟨rfl, hb2⟩
        have HB2 := Lib.hid (HBW.out.trans (hb2.mono (by rw [HG.out]; exact HBW.out.size)))
        clear hb2 k0 k1 k2
        go_wp2_with fail
        go_ret
        exact ⟨.inr ⟨i, hlt, rfl, HX.out, HP.out⟩, by have h := HB2.out; rwa [HG.out] at h⟩
    · obtain rfl : i = l.length := by omega
      go_wp2_with fail
      go_ret
      exact ⟨.inl ⟨rfl, fun t ht => HP.out t ht ht⟩, by have h := HBW.out; rwa [HG.out] at h⟩

theorem flatG_set {α : Type} {enc : α → List Value} {k : Nat} (hk : ∀ x, (enc x).length = k) : ∀ (l : List α) (i j : Nat) (u : Value) (x' : α) (hi : i < l.length) (_ : j < k) (_ : (enc l[i]).set j u = enc x'), (flatG enc l).set (i * k + j) u = flatG enc (l.set i x')
  | x :: r, 0, j, u, x', _, hj, hx => by
    simp only [List.getElem_cons_zero] at hx
    simp only [Nat.zero_mul, Nat.zero_add, List.set_cons_zero]
    rw [show flatG enc (x :: r) = enc x ++ flatG enc r by simp [flatG], show flatG enc (x' :: r) = enc x' ++ flatG enc r by simp [flatG], List.set_append_left _ _ (by rw [hk]; exact hj), hx]
  | x :: r, i + 1, j, u, x', hi, hj, hx => by
    have ih := flatG_set hk r i j u x' (by simpa using hi) hj (by simpa using hx)
    simp only [List.set_cons_succ]
    rw [show flatG enc (x :: r) = enc x ++ flatG enc r by simp [flatG], show flatG enc (x :: r.set i x') = enc x ++ flatG enc (r.set i x') by simp [flatG], ← ih, List.set_append_right _ _ (by rw [hk, Nat.add_mul]; omega)]
    congr 2
    rw [hk, Nat.add_mul]; omega
set_option maxRecDepth 100000 in
theorem Own.setAt {α : Type} {enc : α → List Value} {k : Nat} {e : TypeId} {w : World} {base g m c : Nat} {l : List α} (hk : ∀ x, (enc x).length = k) (h : Own enc k e w base (.slice (some ⟨g, 0, none⟩) m c) l) (i j : Nat) (u : Value) (x' : α) (hi : i < l.length) (hj : j < k) (hx : (enc l[i]).set j u = enc x') :
    Own enc k e (w.setCell ⟨g, i * k + j, none⟩ u) base (.slice (some ⟨g, 0, none⟩) m c) (l.set i x') := by
  refine ⟨by rw [flatG_length hk], ?_⟩
  rcases h.2 with ⟨h2, _⟩ | ⟨g2, cap, cur, hv, hb, hh, h1, h2, h3, h4⟩
  · cases h2
  · injection hv with e1 e2 e3
    injection e1 with e1
    injection e1 with e1
    subst e1 e2 e3
    refine .inr ⟨g, c, cur.set! (i * k + j) u, by simp, hb, ?_, by simpa using h1, h2, by simpa using h3, ?_⟩
    · simp [World.setCell, Array.getElem?_modify, hh]
    · rw [List.length_set, ← flatG_set hk l i j u x' hi hj hx, ← h4]
      simp [List.take_set]
theorem Own.stand {α : Type} {enc : α → List Value} {k : Nat} {e : TypeId} {w : World} {base g m c : Nat} {l : List α} (h : Own enc k e w base (.slice (some ⟨g, 0, none⟩) m c) l) (o : Nat) : w.frozen? ⟨g, o, none⟩ = false := by
  rcases h.2 with ⟨h2, _⟩ | ⟨g2, cap, cur, hv, hb, hh, h1, h2, h3, h4⟩
  · cases h2
  · injection hv with e1 e2 e3
    injection e1 with e1
    injection e1 with e1
    subst e1
    simp [World.frozen?, hh]

theorem filter_take_succ {α : Type} (p : α → Bool) (l : List α) (j : Nat) (h : j < l.length) : (l.take (j + 1)).filter p = (l.take j).filter p ++ (if p l[j] = true then [l[j]] else []) := by
  rw [List.take_succ_eq_append_getElem h, List.filter_append]
  congr 1
  by_cases hp : p l[j] = true
  · simp [hp]
  · simp [hp]

set_option maxHeartbeats 8000000 in
set_option maxRecDepth 100000 in
theorem deleteFunc_any (s : Int) (B base : Nat) (l : List Wr) (v : Value) (w : World) (hB : B < w.heap.size) (hBv : v.ownBlock ≠ some B) (h0 : w.cell? ⟨B, 0, none⟩ = some (.int .i64 s)) (ho : OwnMk w base v l) (hbs : base ≤ w.heap.size) (hl : l.length < 4611686018427387904) :
    Calls Try.prog 23 #[v, .func (.func 24) #[] #[.pointer (some ⟨B, 0, none⟩)]] w fun e w' =>
      ∃ A c, e = .returned (.slice A (l.filter fun x => keepB s x).length c) ∧ OwnMk w' base (.slice A (l.filter fun x => keepB s x).length c) (l.filter fun x => keepB s x) ∧ w.grownBy w' v.ownBlock ∧ Value.ownBlock (.slice A (l.filter fun x => keepB s x).length c) = v.ownBlock := by
  have hix := index_any s B l v w (by omega) h0 (ho.rd encW_len) hl
  have hcl := fun (x : Wr) W (hW : w.grownBy W v.ownBlock) => forgetcl_any s x B W ((grown_cell hW (p := ⟨B, 0, none⟩) hB hBv).trans h0)
  have HCL := Lib.hid hcl; clear hcl h0 hBv
  have HIX := Lib.hid hix; clear hix
  have HO := Lib.hid ho
  obtain ⟨A, c, rfl, hlc⟩ : ∃ A c, v = .slice A l.length c ∧ l.length ≤ c := by
    obtain ⟨A, c, e1, e2, _⟩ := ho.rd encW_len
    exact ⟨A, c, e1, e2⟩
  have hrow := ho.row
  clear ho
  go_enter Try.func23, Try.ntmps23
  go_wp2_with fail
  refine HIX.out.mono ?_
  rintro e w1 ⟨⟨rfl, hall⟩ | ⟨i, hi, rfl, hxi, hlo⟩, hb1⟩
  · have hfl : (l.filter fun x => keepB s x) = l := List.filter_eq_self.2 fun x hx => by
      obtain ⟨t, ht, rfl⟩ := List.getElem_of_mem hx
      exact hall t ht
    have HFL := Lib.hid hfl; clear hfl hall
    have HO1 := Lib.hid (HO.out.below hb1 (Nat.le_refl _))
    have HB1 := Lib.hid (grow_below (grown_same w (Value.slice A l.length c).ownBlock) hb1 (Nat.le_refl _)); clear hb1
    go_wp2_with fail
    go_ret
    rw [HFL.out]
    exact ⟨A, c, rfl, HO1.out, HB1.out, rfl⟩
  · obtain ⟨g, cap, cur, hv, hbg, hg, hcc, hcm, hcl, hct⟩ := hrow.resolve_left (fun h => by rw [h.2] at hi; simp at hi)
    injection hv with e1 _ e3
    subst e1 e3
    have hft : (l.take (i + 1)).filter (fun x => keepB s x) = l.take i := by
      rw [filter_take_succ _ l i hi, hxi]
      simp only [Bool.false_eq_true, if_false, List.append_nil]
      exact List.filter_eq_self.2 fun x hx => by
        rw [List.mem_take_iff_getElem] at hx
        obtain ⟨t, ht, rfl⟩ := hx
        exact hlo t (by omega) (by omega)
    have HO1 := Lib.hid (HO.out.below hb1 (Nat.le_refl _))
    have HB1 := Lib.hid (grow_below (grown_same w (some g)) hb1 (Nat.le_refl _))
    have hi1 : (i : Int) + 1 ≤ (l.length : Int) := by omega
    have hw1 : IntKind.i64.wrap ((i : Int) + 1) = ((i + 1 : Nat) : Int) := by rw [wrap_small _ (by omega) (by omega)]; omega
    have hine : ((i : Int) == -1) = false := by simp
    have HFT := Lib.hid hft; clear hft
    clear hb1 hxi hlo hg hcl hct cur HIX HO hrow hcc
    go_wp2_with fail
    go_loopw [5, 6] (fun iv jv wr => ∃ (a j : Nat) (R : List Wr), a < j ∧ j ≤ l.length ∧ iv = .int .i64 a ∧ jv = .int .i64 j ∧ Hid (R.length = l.length) ∧ Hid (OwnMk wr base (.slice (some ⟨g, 0, none⟩) l.length c) R) ∧ Hid (R.take a = (l.take j).filter (fun x => keepB s x)) ∧ Hid (∀ t (_ : t < l.length), j ≤ t → R[t]? = l[t]?) ∧ Hid (w.grownBy wr (some g))) (fun _ jv _ => l.length - (intOf jv).toNat)
    case atStart => exact ⟨i, i + 1, l, by omega, by omega, rfl, by go_num, Lib.hid rfl, HO1, Lib.hid HFT.out.symm, Lib.hid (fun _ _ _ => rfl), HB1⟩
    case round =>
      obtain ⟨a, j, R, haj, hjl, rfl, rfl, HRL, HR, HT, HD, HB⟩ := hrel
      have hRl := HRL.out
      have hbw : base ≤ wr.heap.size := Nat.le_trans hbs HB.out.size
      clear hw1 hine hi1 HFT HO1 HB1
      by_cases hlt : j < l.length
      · have hRj : R[j]? = some l[j] := by rw [HD.out j hlt (Nat.le_refl _), List.getElem?_eq_getElem hlt]
        obtain ⟨hj2, hj3⟩ := List.getElem?_eq_some_iff.1 hRj
        obtain ⟨A2, c2, ev, _, hcells⟩ := RdW.at (HR.out.rd encW_len)
        obtain ⟨b2, o2, eA, _, k0, k1, k2⟩ := hcells j hj2
        injection ev with ev1 ev2 ev3
        rw [← ev1] at eA
        injection eA with eA
        injection eA with eb eo ep
        subst eb eo
        clear ev1 ev2 ev3 ep
        rw [hj3] at k0 k1 k2
        clear hcells hRj
        simp only [Nat.zero_add] at k0 k1 k2
        have hcc := HCL.out l[j] (wr.alloc (.cells #[.string l[j].s.1, .string l[j].s.2, .int .i64 l[j].v] 60)) (grow_alloc HB.out _)
        have hfs := filter_take_succ (fun x : Wr => keepB s x) l j hlt
        have hng : wr.heap.size ≠ g := by have := (HR.out.low (i := g) rfl).2; omega
        have hD2 : ∀ t (_ : t < l.length), j + 1 ≤ t → R[t]? = l[t]? := fun t ht h => HD.out t ht (by omega)
        cases hx : keepB s l[j] with
        | true =>
          rw [hx] at hcc hfs
          have hset : ∀ W, OwnMk W base (.slice (some ⟨g, 0, none⟩) l.length c) R → OwnMk (((W.setCell ⟨g, a * 3, none⟩ (.string l[j].s.1)).setCell ⟨g, a * 3 + 1, none⟩ (.string l[j].s.2)).setCell ⟨g, a * 3 + 2, none⟩ (.int .i64 l[j].v)) base (.slice (some ⟨g, 0, none⟩) l.length c) (R.set a l[j]) := fun W hW => by
            have ha : a < R.length := by omega
            have h1 := hW.setAt encW_len a 0 (.string l[j].s.1) ⟨(l[j].s.1, (R[a]'ha).s.2), (R[a]'ha).v⟩ ha (by omega) rfl
            have h2 := h1.setAt encW_len a 1 (.string l[j].s.2) ⟨(l[j].s.1, l[j].s.2), (R[a]'ha).v⟩ (by simpa using ha) (by omega) (by rw [List.getElem_set_self]; rfl)
            rw [List.set_set] at h2
            have h3 := h2.setAt encW_len a 2 (.int .i64 l[j].v) l[j] (by simpa using ha) (by omega) (by rw [List.getElem_set_self]; rfl)
            rw [List.set_set] at h3
            exact h3
          have hcell2 : ∀ W, OwnMk W base (.slice (some ⟨g, 0, none⟩) l.length c) R → (∃ u, W.cell? ⟨g, a * 3, none⟩ = some u) ∧ (∃ u, (W.setCell ⟨g, a * 3, none⟩ (.string l[j].s.1)).cell? ⟨g, a * 3 + 1, none⟩ = some u) ∧ (∃ u, ((W.setCell ⟨g, a * 3, none⟩ (.string l[j].s.1)).setCell ⟨g, a * 3 + 1, none⟩ (.string l[j].s.2)).cell? ⟨g, a * 3 + 2, none⟩ = some u) := fun W hW => by
            have ha : a < R.length := by omega
            obtain ⟨A3, c3, ev3, _, hc3⟩ := RdW.at (hW.rd encW_len)
            obtain ⟨b3, o3, eA3, _, m0, m1, m2⟩ := hc3 a ha
            injection ev3 with ev31 ev32 ev33
            rw [← ev31] at eA3
            injection eA3 with eA3
            injection eA3 with eb3 eo3 _
            subst eb3 eo3
            simp only [Nat.zero_add] at m0 m1 m2
            exact ⟨⟨_, m0⟩, ⟨_, (World.cell?_setCell_other W ⟨g, a * 3, none⟩ ⟨g, a * 3 + 1, none⟩ _ (by simp)).trans m1⟩, ⟨_, (World.cell?_setCell_other _ ⟨g, a * 3 + 1, none⟩ ⟨g, a * 3 + 2, none⟩ _ (by simp)).trans ((World.cell?_setCell_other W ⟨g, a * 3, none⟩ ⟨g, a * 3 + 2, none⟩ _ (by simp)).trans m2)⟩⟩
          have hT2 : (R.set a l[j]).take (a + 1) = (l.take (j + 1)).filter (fun x => keepB s x) := by
            rw [hfs, ← HT.out, List.take_add_one, List.getElem?_set_self (by omega), List.take_set_of_le (Nat.le_refl _)]
            simp
          have hD3 : ∀ t (_ : t < l.length), j + 1 ≤ t → (R.set a l[j])[t]? = l[t]? := fun t ht h => by rw [List.getElem?_set_ne (by omega)]; exact hD2 t ht h
          have hRl2 : (R.set a l[j]).length = l.length := by rw [List.length_set]; exact hRl
          generalize R.set a l[j] = R2 at hset hT2 hD3 hRl2
          have HRL2 := Lib.hid hRl2; clear hRl2 hRl
          clear hx hfs hj3 hj2 hD2
          generalize l[j] = z at k0 k1 k2 hcc hset hcell2
          obtain ⟨⟨zx, zy⟩, zv⟩ := z
          simp only [Bool.not_true] at k0 k1 k2 hcc hset hcell2
          have HCC := Lib.hid hcc; clear hcc
          have HSET := Lib.hid hset; clear hset
          have HC2 := Lib.hid hcell2; clear hcell2
          have HT2 := Lib.hid hT2; clear hT2
          have HD3 := Lib.hid hD3; clear hD3
          have hj5 : (j : Int) < (l.length : Int) := by omega
          go_wp2_with fail
          refine HCC.out.mono ?_
          rintro e w2 ⟨rfl, hb2⟩
          have hR2 : OwnMk w2 base (.slice (some ⟨g, 0, none⟩) l.length c) R := (HR.out.alloc _).below hb2 (Nat.le_refl _)
          have hv2 : Whole w2 wr.heap.size 60 [.string zx, .string zy, .int .i64 zv] := (Whole.fresh wr 60 [.string zx, .string zy, .int .i64 zv]).below hb2 (by simp)
          have hBw2 : w.grownBy w2 (some g) := grow_below (grow_alloc HB.out _) hb2 (by have := HB.out.size; simp; omega)
          obtain ⟨⟨u0, m0⟩, ⟨u1, m1⟩, ⟨u2, m2⟩⟩ := HC2.out w2 hR2
          have z0 := hR2.stand (a * 3)
          have z1 : (w2.setCell ⟨g, a * 3, none⟩ (.string zx)).frozen? ⟨g, a * 3 + 1, none⟩ = false := by rw [World.frozen?_setCell]; exact hR2.stand (a * 3 + 1)
          have z2 : ((w2.setCell ⟨g, a * 3, none⟩ (.string zx)).setCell ⟨g, a * 3 + 1, none⟩ (.string zy)).frozen? ⟨g, a * 3 + 2, none⟩ = false := by rw [World.frozen?_setCell, World.frozen?_setCell]; exact hR2.stand (a * 3 + 2)
          have n0 := hv2.cell 0 _ rfl
          have n1 := hv2.cell 1 _ rfl
          have n2 := hv2.cell 2 _ rfl
          have HR3 := Lib.hid (HSET.out w2 hR2)
          have HB3 := Lib.hid (grow_set (grow_set (grow_set hBw2 (a * 3) (.string zx)) (a * 3 + 1) (.string zy)) (a * 3 + 2) (.int .i64 zv))
          have ha5 : (a : Int) < (l.length : Int) := by omega
          clear hb2 hR2 hv2 hBw2 k0 k1 k2 hng
          go_wp2_with fail
          go_roundw
          case rel => exact ⟨a + 1, j + 1, R2, by omega, by omega, by go_num, by go_num, HRL2, HR3, HT2, HD3, HB3⟩
          case measure => simp [intOf]; omega
        | false =>
          rw [hx] at hcc hfs
          simp only [Bool.false_eq_true, if_false, List.append_nil] at hfs
          have HT2 := Lib.hid (show R.take a = (l.take (j + 1)).filter (fun x => keepB s x) by rw [hfs]; exact HT.out)
          have HD3 := Lib.hid hD2; clear hD2 hfs hx hj3 hj2 hRl
          generalize l[j] = z at k0 k1 k2 hcc
          obtain ⟨⟨zx, zy⟩, zv⟩ := z
          simp only [Bool.not_false] at k0 k1 k2 hcc
          have HCC := Lib.hid hcc; clear hcc
          have hj5 : (j : Int) < (l.length : Int) := by omega
          go_wp2_with fail
          refine HCC.out.mono ?_
          rintro e w2 ⟨rfl, hb2⟩
          have HR3 := Lib.hid (show OwnMk w2 base (.slice (some ⟨g, 0, none⟩) l.length c) R from (HR.out.alloc _).below hb2 (Nat.le_refl _))
          have HB3 := Lib.hid (show w.grownBy w2 (some g) from grow_below (grow_alloc HB.out _) hb2 (by have := HB.out.size; simp; omega))
          clear hb2 k0 k1 k2 hng
          go_wp2_with fail
          go_roundw
          case rel => exact ⟨a, j + 1, R, by omega, by omega, rfl, by go_num, HRL, HR3, HT2, HD3, HB3⟩
          case measure => simp [intOf]; omega
      · obtain rfl : j = l.length := by omega
        rw [List.take_length] at HT
        obtain ⟨g', cap', cur, ev, _, hg, _, hcm', hcl, hct⟩ := HR.out.row.resolve_left (fun h => by rw [h.2] at hRl; simp at hRl; omega)
        injection ev with ev1 ev2 ev3
        injection ev1 with ev1
        injection ev1 with ev1
        subst ev1 ev3
        clear ev2
        rw [hRl] at hct
        have HG := Lib.hid hg; clear hg
        have HCL2 := Lib.hid hcl; clear hcl
        have HCT := Lib.hid hct; clear hct
        have ha1 : (a : Int) ≤ (l.length : Int) := by omega
        have ha2 : (a : Int) ≤ (c : Int) := by omega
        have ha3 : ¬ c = a := by omega
        have hfl : (l.filter fun x => keepB s x).length = a := by rw [← HT.out, List.length_take]; omega
        have HFL := Lib.hid hfl; clear hfl
        unfold maxLen at hcm
        clear hRl
        go_wp2_with (with_reducible show wpList _ _ _ (⟨none, _, _, _, _, _⟩ :: _) _ _; go_must (refine wpList_clearP rfl _ rfl g (a * 3) cur _ _ _ rfl HG.out (fun _ => rfl) ?d1 ?_))
        case d1 => rw [HCL2.out]; omega
        intro w2 zs hz hm2
        have HZ := Lib.hid hz; clear hz
        go_wp2_with fail
        go_ret
        refine ⟨some ⟨g, 0, none⟩, c, by rw [HFL.out]; rfl, ?_, grown_trans' HB.out hm2.out.grown, rfl⟩
        rw [HFL.out]
        have hown := Own.ofRow (e := 60) encW_len (l.filter fun x => keepB s x) hbg hm2.out.whole (cap := c) (by rw [HFL.out]; omega) (by unfold maxLen; omega) (by rw [length_splice _ _ _ (by rw [HZ.out, HCL2.out]; omega), HCL2.out]) (by
          rw [HFL.out, take_splice_lt cur _ _ _ (Nat.le_refl _) (by rw [HCL2.out]; omega), ← HT.out, flatG_take encW_len, ← HCT.out, List.take_take, Nat.min_eq_left (by omega)])
        rw [HFL.out] at hown
        exact hown
theorem cmp_neg (a b : K) : (cmpKey a b < 0) ↔ a < b := by
  unfold cmpKey
  by_cases h1 : a < b
  · simp [h1]
  · by_cases h2 : b < a <;> simp [h1, h2]

theorem cmp_zero (a b : K) : (cmpKey a b = 0) ↔ a = b := by
  unfold cmpKey
  by_cases h1 : a < b
  · simp [h1]; grind
  · by_cases h2 : b < a
    · simp [h1, h2]; grind
    · simp [h1, h2]; grind

set_option maxHeartbeats 1000000 in
set_option maxRecDepth 100000 in
theorem besidecl1_any (x : Wr) (k : K) (w : World) : Calls Try.prog 30 #[.agg #[.string x.s.1, .string x.s.2, .int .i64 x.v], .string k] w fun e w' => e = .returned (.int .i64 (cmpKey x.s.2 k)) ∧ Below w.heap.size w w' := by
  have hcon := fun W' => compare_any x.s.2 k W'
  generalize cmpKey x.s.2 k = r at hcon ⊢
  go_enter Try.func30, Try.ntmps30
  go_wp2_with (go_at_call 31; refine (hcon _).mono ?_; rintro e w' ⟨rfl, rfl⟩)
  go_ret
  exact ⟨rfl, (Below.refl _ _).alloc (Nat.le_refl _) _⟩

set_option maxHeartbeats 1000000 in
set_option maxRecDepth 100000 in
theorem besidecl2_any (x : Wr) (k : K) (w : World) : Calls Try.prog 32 #[.agg #[.string x.s.1, .string x.s.2, .int .i64 x.v], .string k] w fun e w' => e = .returned (.int .i64 (cmpKey x.s.1 k)) ∧ Below w.heap.size w w' := by
  have hcon := fun W' => compare_any x.s.1 k W'
  generalize cmpKey x.s.1 k = r at hcon ⊢
  go_enter Try.func32, Try.ntmps32
  go_wp2_with (go_at_call 31; refine (hcon _).mono ?_; rintro e w' ⟨rfl, rfl⟩)
  go_ret
  exact ⟨rfl, (Below.refl _ _).alloc (Nat.le_refl _) _⟩

set_option maxHeartbeats 4000000 in
set_option maxRecDepth 100000 in
theorem bsearch1_any (l : List Wr) (hr : l.Pairwise fun x y => x.s.2 < y.s.2) (k : K) (v : Value) (w : World) (hv : RdW w w.heap.size v l) (hl : l.length < 4611686018427387904) :
    Calls Try.prog 29 #[v, .string k, .func (.func 30) #[] #[]] w fun e w' => ∃ i : Nat, i ≤ l.length ∧ (∀ t (_ : t < l.length), t < i → l[t].s.2 < k) ∧ (∀ t (_ : t < l.length), i ≤ t → ¬ l[t].s.2 < k) ∧ ∃ b, e = .returned (.tuple #[.int .i64 (i : Nat), .bool b]) ∧ (b = true ↔ ∃ h : i < l.length, l[i].s.2 = k) ∧ Below w.heap.size w w' := by
  obtain ⟨A, c, rfl, hc, hi⟩ := hv.at
  have HI := Lib.hid hi; clear hi
  have HR := Lib.hid hr; clear hr
  clear hv
  obtain ⟨g, hg⟩ : ∃ g, g = w.heap.size := ⟨_, rfl⟩
  have HG := Lib.hid hg; clear hg
  have hcl := fun (x : Wr) (W : World) => besidecl1_any x k W
  have HC := Lib.hid hcl; clear hcl
  go_enter Try.func29, Try.ntmps29
  go_wp2_with fail
  go_loopg [9, 10] l.length (fun kx s9 s10 wr => ∃ lo hi : Nat, s9 = .int .i64 lo ∧ s10 = .int .i64 hi ∧ lo ≤ hi ∧ hi ≤ l.length ∧ hi - lo ≤ kx ∧ Hid (Below g w wr) ∧
    Hid ((∀ t (_ : t < l.length), t < lo → l[t].s.2 < k) ∧ (∀ t (_ : t < l.length), hi ≤ t → ¬ l[t].s.2 < k)))
  case atStart => exact ⟨0, l.length, rfl, rfl, Nat.zero_le _, Nat.le_refl _, by omega, Lib.hid (Below.refl _ _), Lib.hid ⟨fun t _ ht => absurd ht (Nat.not_lt_zero _), fun t h1 h2 => by omega⟩⟩
  case round =>
    obtain ⟨lo, hi, rfl, rfl, hlh, hin, hgk, HB, HM⟩ := hrel
    by_cases hlt : lo < hi
    · have hh : (lo + hi) / 2 < l.length := by omega
      obtain ⟨b, o, rfl, hbB, k0, k1, k2⟩ := HI.out ((lo + hi) / 2) hh
      rw [← HB.out.cell (p := ⟨b, _, none⟩) (by rw [HG.out]; exact hbB)] at k0
      rw [← HB.out.cell (p := ⟨b, _, none⟩) (by rw [HG.out]; exact hbB)] at k1
      rw [← HB.out.cell (p := ⟨b, _, none⟩) (by rw [HG.out]; exact hbB)] at k2
      have hmid : ∀ t (_ : t < l.length), (t < (lo + hi) / 2 → l[t].s.2 < l[(lo + hi) / 2].s.2) ∧ ((lo + hi) / 2 < t → l[(lo + hi) / 2].s.2 < l[t].s.2) := fun t ht => ⟨fun h => List.pairwise_iff_getElem.1 HR.out t _ ht hh h, fun h => List.pairwise_iff_getElem.1 HR.out _ t hh ht h⟩
      have HMID := Lib.hid hmid; clear hmid
      have hcc := HC.out l[(lo + hi) / 2]
      have hneg := cmp_neg l[(lo + hi) / 2].s.2 k
      by_cases hx : l[(lo + hi) / 2].s.2 < k
      · have hlo : ∀ t (_ : t < l.length), t < (lo + hi) / 2 + 1 → l[t].s.2 < k := fun t ht h => by
          rcases Nat.lt_or_ge t ((lo + hi) / 2) with h1 | h1
          · have := (HMID.out t ht).1 h1; grind
          · have e : t = (lo + hi) / 2 := by omega
            subst e; exact hx
        have HLO := Lib.hid hlo; clear hlo
        have hneg2 := hneg.2 hx
        clear hneg hx HMID
        generalize cmpKey l[(lo + hi) / 2].s.2 k = r at hcc hneg2
        generalize l[(lo + hi) / 2] = z at k0 k1 k2 hcc
        have HCC := Lib.hid hcc; clear hcc
        go_wp2_with fail
        refine (HCC.out _).mono ?_
        rintro e w2 ⟨rfl, hbn⟩
        have HB2 := Lib.hid (show Below g w w2 from HB.out.trans (hbn.mono (by rw [HG.out]; exact HB.out.size))); clear hbn
        clear k0 k1 k2
        go_wp2_with fail
        go_roundg (hi - ((lo + hi) / 2 + 1))
        case measure => omega
        case rel => exact ⟨(lo + hi) / 2 + 1, hi, by rw [show ((lo : Int) + (hi : Int)) / 2 + 1 = (((lo + hi) / 2 + 1 : Nat) : Int) by omega], rfl, by omega, hin, Nat.le_refl _, HB2, Lib.hid ⟨HLO.out, HM.out.2⟩⟩
      · have hhi : ∀ t (_ : t < l.length), (lo + hi) / 2 ≤ t → ¬ l[t].s.2 < k := fun t ht h => by
          rcases Nat.lt_or_ge ((lo + hi) / 2) t with h1 | h1
          · have := (HMID.out t ht).2 h1; grind
          · have e : t = (lo + hi) / 2 := by omega
            subst e; exact hx
        have HHI := Lib.hid hhi; clear hhi
        have hneg2 : ¬ cmpKey l[(lo + hi) / 2].s.2 k < 0 := fun h => hx (hneg.1 h)
        clear hneg hx HMID
        generalize cmpKey l[(lo + hi) / 2].s.2 k = r at hcc hneg2
        generalize l[(lo + hi) / 2] = z at k0 k1 k2 hcc
        have HCC := Lib.hid hcc; clear hcc
        go_wp2_with fail
        refine (HCC.out _).mono ?_
        rintro e w2 ⟨rfl, hbn⟩
        have HB2 := Lib.hid (show Below g w w2 from HB.out.trans (hbn.mono (by rw [HG.out]; exact HB.out.size))); clear hbn
        clear k0 k1 k2
        go_wp2_with fail
        go_roundg ((lo + hi) / 2 - lo)
        case measure => omega
        case rel => exact ⟨lo, (lo + hi) / 2, rfl, by rw [show ((lo : Int) + (hi : Int)) / 2 = (((lo + hi) / 2 : Nat) : Int) by omega], by omega, by omega, Nat.le_refl _, HB2, Lib.hid ⟨HM.out.1, HHI.out⟩⟩
    · obtain rfl : hi = lo := by omega
      by_cases hn : hi < l.length
      · obtain ⟨b, o, rfl, hbB, k0, k1, k2⟩ := HI.out hi hn
        rw [← HB.out.cell (p := ⟨b, _, none⟩) (by rw [HG.out]; exact hbB)] at k0
        rw [← HB.out.cell (p := ⟨b, _, none⟩) (by rw [HG.out]; exact hbB)] at k1
        rw [← HB.out.cell (p := ⟨b, _, none⟩) (by rw [HG.out]; exact hbB)] at k2
        have hcc := HC.out l[hi]
        have hiff : (cmpKey (l[hi].s.2) k = 0) ↔ ∃ h : hi < l.length, l[hi].s.2 = k := (cmp_zero _ _).trans ⟨fun h => ⟨hn, h⟩, fun ⟨_, h⟩ => h⟩
        generalize cmpKey (l[hi].s.2) k = r at hcc hiff
        generalize l[hi] = z at k0 k1 k2 hcc
        have HCC := Lib.hid hcc; clear hcc
        have HIF := Lib.hid hiff; clear hiff
        go_wp2_with fail
        refine (HCC.out _).mono ?_
        rintro e w2 ⟨rfl, hbn⟩
        have HB2 := Lib.hid (show Below g w w2 from HB.out.trans (hbn.mono (by rw [HG.out]; exact HB.out.size))); clear hbn
        clear k0 k1 k2
        go_wp2_with fail
        go_ret2
        exact ⟨hi, hin, HM.out.1, HM.out.2, _, rfl, by simpa using HIF.out, by have h := HB2.out; rwa [HG.out] at h⟩
      · go_wp2_with fail
        go_ret2
        exact ⟨hi, hin, HM.out.1, HM.out.2, _, rfl, ⟨fun h => by simp at h, fun ⟨h, _⟩ => absurd h hn⟩, by have h := HB.out; rwa [HG.out] at h⟩
set_option maxHeartbeats 4000000 in
set_option maxRecDepth 100000 in
theorem bsearch2_any (l : List Wr) (hr : l.Pairwise fun x y => x.s.1 < y.s.1) (k : K) (v : Value) (w : World) (hv : RdW w w.heap.size v l) (hl : l.length < 4611686018427387904) :
    Calls Try.prog 29 #[v, .string k, .func (.func 32) #[] #[]] w fun e w' => ∃ i : Nat, i ≤ l.length ∧ (∀ t (_ : t < l.length), t < i → l[t].s.1 < k) ∧ (∀ t (_ : t < l.length), i ≤ t → ¬ l[t].s.1 < k) ∧ ∃ b, e = .returned (.tuple #[.int .i64 (i : Nat), .bool b]) ∧ (b = true ↔ ∃ h : i < l.length, l[i].s.1 = k) ∧ Below w.heap.size w w' := by
  obtain ⟨A, c, rfl, hc, hi⟩ := hv.at
  have HI := Lib.hid hi; clear hi
  have HR := Lib.hid hr; clear hr
  clear hv
  obtain ⟨g, hg⟩ : ∃ g, g = w.heap.size := ⟨_, rfl⟩
  have HG := Lib.hid hg; clear hg
  have hcl := fun (x : Wr) (W : World) => besidecl2_any x k W
  have HC := Lib.hid hcl; clear hcl
  go_enter Try.func29, Try.ntmps29
  go_wp2_with fail
  go_loopg [9, 10] l.length (fun kx s9 s10 wr => ∃ lo hi : Nat, s9 = .int .i64 lo ∧ s10 = .int .i64 hi ∧ lo ≤ hi ∧ hi ≤ l.length ∧ hi - lo ≤ kx ∧ Hid (Below g w wr) ∧
    Hid ((∀ t (_ : t < l.length), t < lo → l[t].s.1 < k) ∧ (∀ t (_ : t < l.length), hi ≤ t → ¬ l[t].s.1 < k)))
  case atStart => exact ⟨0, l.length, rfl, rfl, Nat.zero_le _, Nat.le_refl _, by omega, Lib.hid (Below.refl _ _), Lib.hid ⟨fun t _ ht => absurd ht (Nat.not_lt_zero _), fun t h1 h2 => by omega⟩⟩
  case round =>
    obtain ⟨lo, hi, rfl, rfl, hlh, hin, hgk, HB, HM⟩ := hrel
    by_cases hlt : lo < hi
    · have hh : (lo + hi) / 2 < l.length := by omega
      obtain ⟨b, o, rfl, hbB, k0, k1, k2⟩ := HI.out ((lo + hi) / 2) hh
      rw [← HB.out.cell (p := ⟨b, _, none⟩) (by rw [HG.out]; exact hbB)] at k0
      rw [← HB.out.cell (p := ⟨b, _, none⟩) (by rw [HG.out]; exact hbB)] at k1
      rw [← HB.out.cell (p := ⟨b, _, none⟩) (by rw [HG.out]; exact hbB)] at k2
      have hmid : ∀ t (_ : t < l.length), (t < (lo + hi) / 2 → l[t].s.1 < l[(lo + hi) / 2].s.1) ∧ ((lo + hi) / 2 < t → l[(lo + hi) / 2].s.1 < l[t].s.1) := fun t ht => ⟨fun h => List.pairwise_iff_getElem.1 HR.out t _ ht hh h, fun h => List.pairwise_iff_getElem.1 HR.out _ t hh ht h⟩
      have HMID := Lib.hid hmid; clear hmid
      have hcc := HC.out l[(lo + hi) / 2]
      have hneg := cmp_neg l[(lo + hi) / 2].s.1 k
      by_cases hx : l[(lo + hi) / 2].s.1 < k
      · have hlo : ∀ t (_ : t < l.length), t < (lo + hi) / 2 + 1 → l[t].s.1 < k := fun t ht h => by
          rcases Nat.lt_or_ge t ((lo + hi) / 2) with h1 | h1
          · have := (HMID.out t ht).1 h1; grind
          · have e : t = (lo + hi) / 2 := by omega
            subst e; exact hx
        have HLO := Lib.hid hlo; clear hlo
        have hneg2 := hneg.2 hx
        clear hneg hx HMID
        generalize cmpKey l[(lo + hi) / 2].s.1 k = r at hcc hneg2
        generalize l[(lo + hi) / 2] = z at k0 k1 k2 hcc
        have HCC := Lib.hid hcc; clear hcc
        go_wp2_with fail
        refine (HCC.out _).mono ?_
        rintro e w2 ⟨rfl, hbn⟩
        have HB2 := Lib.hid (show Below g w w2 from HB.out.trans (hbn.mono (by rw [HG.out]; exact HB.out.size))); clear hbn
        clear k0 k1 k2
        go_wp2_with fail
        go_roundg (hi - ((lo + hi) / 2 + 1))
        case measure => omega
        case rel => exact ⟨(lo + hi) / 2 + 1, hi, by rw [show ((lo : Int) + (hi : Int)) / 2 + 1 = (((lo + hi) / 2 + 1 : Nat) : Int) by omega], rfl, by omega, hin, Nat.le_refl _, HB2, Lib.hid ⟨HLO.out, HM.out.2⟩⟩
      · have hhi : ∀ t (_ : t < l.length), (lo + hi) / 2 ≤ t → ¬ l[t].s.1 < k := fun t ht h => by
          rcases Nat.lt_or_ge ((lo + hi) / 2) t with h1 | h1
          · have := (HMID.out t ht).2 h1; grind
          · have e : t = (lo + hi) / 2 := by omega
            subst e; exact hx
        have HHI := Lib.hid hhi; clear hhi
        have hneg2 : ¬ cmpKey l[(lo + hi) / 2].s.1 k < 0 := fun h => hx (hneg.1 h)
        clear hneg hx HMID
        generalize cmpKey l[(lo + hi) / 2].s.1 k = r at hcc hneg2
        generalize l[(lo + hi) / 2] = z at k0 k1 k2 hcc
        have HCC := Lib.hid hcc; clear hcc
        go_wp2_with fail
        refine (HCC.out _).mono ?_
        rintro e w2 ⟨rfl, hbn⟩
        have HB2 := Lib.hid (show Below g w w2 from HB.out.trans (hbn.mono (by rw [HG.out]; exact HB.out.size))); clear hbn
        clear k0 k1 k2
        go_wp2_with fail
        go_roundg ((lo + hi) / 2 - lo)
        case measure => omega
        case rel => exact ⟨lo, (lo + hi) / 2, rfl, by rw [show ((lo : Int) + (hi : Int)) / 2 = (((lo + hi) / 2 : Nat) : Int) by omega], by omega, by omega, Nat.le_refl _, HB2, Lib.hid ⟨HM.out.1, HHI.out⟩⟩
    · obtain rfl : hi = lo := by omega
      by_cases hn : hi < l.length
      · obtain ⟨b, o, rfl, hbB, k0, k1, k2⟩ := HI.out hi hn
        rw [← HB.out.cell (p := ⟨b, _, none⟩) (by rw [HG.out]; exact hbB)] at k0
        rw [← HB.out.cell (p := ⟨b, _, none⟩) (by rw [HG.out]; exact hbB)] at k1
        rw [← HB.out.cell (p := ⟨b, _, none⟩) (by rw [HG.out]; exact hbB)] at k2
        have hcc := HC.out l[hi]
        have hiff : (cmpKey (l[hi].s.1) k = 0) ↔ ∃ h : hi < l.length, l[hi].s.1 = k := (cmp_zero _ _).trans ⟨fun h => ⟨hn, h⟩, fun ⟨_, h⟩ => h⟩
        generalize cmpKey (l[hi].s.1) k = r at hcc hiff
        generalize l[hi] = z at k0 k1 k2 hcc
        have HCC := Lib.hid hcc; clear hcc
        have HIF := Lib.hid hiff; clear hiff
        go_wp2_with fail
        refine (HCC.out _).mono ?_
        rintro e w2 ⟨rfl, hbn⟩
        have HB2 := Lib.hid (show Below g w w2 from HB.out.trans (hbn.mono (by rw [HG.out]; exact HB.out.size))); clear hbn
        clear k0 k1 k2
        go_wp2_with fail
        go_ret2
        exact ⟨hi, hin, HM.out.1, HM.out.2, _, rfl, by simpa using HIF.out, by have h := HB2.out; rwa [HG.out] at h⟩
      · go_wp2_with fail
        go_ret2
        exact ⟨hi, hin, HM.out.1, HM.out.2, _, rfl, ⟨fun h => by simp at h, fun ⟨h, _⟩ => absurd h hn⟩, by have h := HB.out; rwa [HG.out] at h⟩
end Go.Proofs.Ytcmpbhcldaogiaa
namespace Go.Proofs.Ytcmpbhcldaogiaa

theorem ver_in : ∀ (R : List (K × K)) (L : List Wr) (v : Int) (k : K), mem R k → ver (L ++ R.map fun s => ⟨s, v⟩) k = v
  | [], L, v, k, h => absurd h (mem_nil k)
  | s :: R, L, v, k, h => by
    rw [List.map_cons, show L ++ (⟨s, v⟩ : Wr) :: R.map (fun s => ⟨s, v⟩) = (L ++ [⟨s, v⟩]) ++ R.map (fun s => ⟨s, v⟩) by simp]
    by_cases hr : mem R k
    · exact ver_in R _ v k hr
    · rw [ver_pass _ _ _ (fun y hy hk => by
        obtain ⟨u, hu, rfl⟩ := List.mem_map.1 hy
        exact hr ⟨u, hu, hk⟩), ver_snoc]
      rcases (mem_cons s R k).1 h with h1 | h1
      · rw [if_pos h1]
      · exact absurd h1 hr
theorem ver_out (R : List (K × K)) (L : List Wr) (v : Int) (k : K) (h : ¬ mem R k) : ver (L ++ R.map fun s => ⟨s, v⟩) k = ver L k :=
  ver_pass _ _ _ fun y hy hk => by
    obtain ⟨u, hu, rfl⟩ := List.mem_map.1 hy
    exact h ⟨u, hu, hk⟩
theorem normal_pair {R : List (K × K)} (h : Normal R) : R.Pairwise fun s t => s.2 < t.1 := by
  induction R with
  | nil => exact .nil
  | cons s r ih => exact .cons (fun t ht => h.2.1 t ht) (ih h.2.2)
theorem fits_nil {R : List (K × K)} {P : K → Prop} (h : Fits R P) : R = [] ↔ ¬ ∃ k, P k := by
  constructor
  · rintro rfl ⟨k, hk⟩
    exact mem_nil k ((h.2 k).2 hk)
  · intro hn
    cases R with
    | nil => rfl
    | cons s r => exact absurd ⟨s.1, (h.2 _).1 ⟨s, by simp, Std.IsPreorder.le_refl _, h.1.1⟩⟩ hn
open Classical in
/-- the keys of spans, as if they were written at 1 -/
noncomputable def asOne (P : K → Prop) (k : K) : Int := if P k then 1 else 0
theorem fits_pieces {R : List (K × K)} {P : K → Prop} (h : Fits R P) : Pieces (asOne P) 0 (R.map fun s => ⟨s, 1⟩) := by
  refine ⟨fun x hx => ?_, fun k hk => ?_, fun x hx k hk => ?_, ?_⟩
  · obtain ⟨s, hs, rfl⟩ := List.mem_map.1 hx
    exact ⟨h.1.ne s hs, by simp⟩
  · unfold asOne at hk
    split at hk
    · rename_i hp
      obtain ⟨s, hs, h1⟩ := (h.2 k).2 hp
      exact ⟨_, List.mem_map.2 ⟨s, hs, rfl⟩, h1⟩
    · omega
  · obtain ⟨s, hs, rfl⟩ := List.mem_map.1 hx
    unfold asOne
    rw [if_pos ((h.2 k).1 ⟨s, hs, hk⟩)]
  · rw [List.pairwise_map]
    refine (normal_pair h.1).imp ?_
    intro s t hst k h1 h2
    unfold has at h1 h2
    grind
theorem fits_len {R l : List (K × K)} (h : Fits R (fun k => mem l k)) : R.length ≤ l.length := by
  have hp := fits_pieces h
  have hnd : (R.map (·.1)).Nodup := by
    rw [List.nodup_iff_pairwise_ne, List.pairwise_map]
    refine (normal_pair h.1).imp_of_mem ?_
    intro s t hs ht hst e
    have := h.1.ne s hs
    grind
  have hsub : ∀ k ∈ R.map (·.1), k ∈ l.map (·.1) := fun k hk => by
    obtain ⟨s, hs, rfl⟩ := List.mem_map.1 hk
    have hst : isStart (asOne (fun k => mem l k)) 0 s.1 := by
      refine (hp.start s.1).2 ⟨⟨s, 1⟩, List.mem_map.2 ⟨s, hs, rfl⟩, rfl, fun y hy hye => ?_⟩
      obtain ⟨t, ht, rfl⟩ := List.mem_map.1 hy
      have e1 : t.2 = s.1 := hye.1
      have t1 := h.1.ne t ht
      have s1 := h.1.ne s hs
      by_cases e : s = t
      · subst e; grind
      · obtain ⟨i, hi, rfl⟩ := List.mem_iff_getElem.1 hs
        obtain ⟨j, hj, rfl⟩ := List.mem_iff_getElem.1 ht
        have hq := List.pairwise_iff_getElem.1 (normal_pair h.1)
        rcases Nat.lt_trichotomy i j with hij | hij | hij
        · have := hq i j hi hj hij; grind
        · subst hij; exact e rfl
        · have := hq j i hj hi hij; grind
    obtain ⟨h1, h2⟩ := hst
    have hm : mem l s.1 := (h.2 _).1 ⟨s, hs, Std.IsPreorder.le_refl _, h.1.ne s hs⟩
    obtain ⟨u, hu, huk⟩ := hm
    by_cases hlt : u.1 < s.1
    · exfalso
      obtain ⟨x, hx1, hx2, hx3⟩ := h2 u.1 hlt
      refine hx3 ?_
      unfold asOne
      rw [if_pos (show mem l x from ⟨u, hu, hx1, by unfold has at huk; grind⟩), if_pos (show mem l s.1 from ⟨u, hu, huk⟩)]
    · refine List.mem_map.2 ⟨u, hu, ?_⟩
      unfold has at huk
      grind
  have := nodup_len _ _ hnd hsub
  simpa using this
theorem wrote_f {m : Mk} {L R : List (_)} {t : Txn} {v : Int} (hL : ver L = m.f) (h : Fits R (keysOf t)) : (wrote m v t).f = ver (L ++ R.map fun s => ⟨s, v⟩) ∧ (wrote m v t).most = if R = [] then m.most else v := by
  unfold wrote
  constructor
  · funext k
    simp only
    by_cases hk : keysOf t k
    · rw [if_pos hk, ver_in R L v k ((h.2 k).2 hk)]
    · rw [if_neg hk, ver_out R L v k (fun hm => hk ((h.2 k).1 hm)), hL]
  · simp only
    by_cases he : ∃ k, keysOf t k
    · rw [if_pos he, if_neg (fun e => (fits_nil h).1 e he)]
    · rw [if_neg he, if_pos ((fits_nil h).2 he)]
end Go.Proofs.Ytcmpbhcldaogiaa
namespace Go.Proofs.Ytcmpbhcldaogiaa

/-- one mark stands ahead of another, and they do not touch with one version -/
def Ahead (x y : Wr) : Prop := x.s.2 < y.s.1 ∨ (x.s.2 = y.s.1 ∧ x.v ≠ y.v)
theorem Ahead.le {x y : Wr} (h : Ahead x y) : x.s.2 ≤ y.s.1 := by rcases h with h | ⟨h, _⟩ <;> grind
theorem Ahead.of {x y x' y' : Wr} (h : Ahead x y) (h1 : x'.s.2 ≤ x.s.2) (h2 : y.s.1 ≤ y'.s.1) (h3 : x'.v = x.v) (h4 : y'.v = y.v) : Ahead x' y' := by
  unfold Ahead at *
  rcases h with h | ⟨h, hv⟩
  · left; grind
  · by_cases e : x'.s.2 = y'.s.1
    · right; exact ⟨e, by rw [h3, h4]; exact hv⟩
    · left; grind
/-- the list says of all keys above b when they were written last -/
structure Rep (f : K → Int) (b : Int) (L : List Wr) : Prop where
  ne : ∀ x ∈ L, x.s.1 < x.s.2 ∧ b < x.v
  says : ∀ x ∈ L, ∀ k, has x.s k → f k = x.v
  all : ∀ k, b < f k → ∃ x ∈ L, has x.s k
  rise : L.Pairwise Ahead
theorem Rep.pieces {f : K → Int} {b : Int} {L : List Wr} (h : Rep f b L) : Pieces f b L :=
  ⟨h.ne, h.all, h.says, h.rise.imp fun {x y} hxy k h1 h2 => by
    have := hxy.le
    unfold has at h1 h2
    grind⟩
theorem Rep.both {f : K → Int} {b : Int} {L : List Wr} (h : Rep f b L) {x y : Wr} (hx : x ∈ L) (hy : y ∈ L) : x = y ∨ Ahead x y ∨ Ahead y x := by
  obtain ⟨i, hi, rfl⟩ := List.mem_iff_getElem.1 hx
  obtain ⟨j, hj, rfl⟩ := List.mem_iff_getElem.1 hy
  have hp := List.pairwise_iff_getElem.1 h.rise
  rcases Nat.lt_trichotomy i j with hij | hij | hij
  · exact .inr (.inl (hp i j hi hj hij))
  · subst hij; exact .inl rfl
  · exact .inr (.inr (hp j i hj hi hij))
theorem sum_zero (L : List Wr) : (L.map fun _ => (0 : Nat)).sum = 0 := by
  induction L with
  | nil => rfl
  | cons x r ih => rw [List.map_cons, List.sum_cons, ih]
theorem Rep.size {f : K → Int} {b : Int} {L : List Wr} (h : Rep f b L) : SizeIs f b L.length := by
  have h0 : pairsOf L L = 0 := by
    unfold pairsOf
    have : L.map (fun x => (L.filter (touch x)).length) = L.map (fun _ => 0) := by
      refine List.map_congr_left fun x hx => ?_
      rw [List.length_eq_zero_iff, List.filter_eq_nil_iff]
      intro y hy ht
      simp only [touch, Bool.and_eq_true, decide_eq_true_eq] at ht
      have hx1 := (h.ne x hx).1
      have hy1 := (h.ne y hy).1
      rcases h.both hx hy with rfl | ha | ha
      · grind
      · unfold Ahead at ha; grind
      · have := ha.le; grind
    rw [this]
    exact sum_zero L
  have := h.pieces.size.2
  rwa [h0, Nat.sub_zero] at this
theorem Rep.forget {f : K → Int} {b b' : Int} {L : List Wr} (h : Rep f b L) (hb : b ≤ b') : Rep f b' (L.filter fun x => !decide (x.v ≤ b')) := by
  refine ⟨fun x hx => ?_, fun x hx => ?_, fun k hk => ?_, h.rise.sublist List.filter_sublist⟩
  · obtain ⟨h1, h2⟩ := List.mem_filter.1 hx
    exact ⟨(h.ne x h1).1, by simpa using h2⟩
  · exact h.says x (List.mem_filter.1 hx).1
  · obtain ⟨x, hx, hxk⟩ := h.all k (by omega)
    exact ⟨x, List.mem_filter.2 ⟨hx, by have := h.says x hx k hxk; simp; omega⟩, hxk⟩
theorem Rep.nil (f : K → Int) (b : Int) (h : ∀ k, f k ≤ b) : Rep f b [] := ⟨by simp, by simp, fun k hk => by have := h k; omega, .nil⟩

/-! ### the greatest version -/
def imax (n v : Int) : Int := if n < v then v else n
def newestL (b : Int) (L : List Wr) : Int := L.foldl (fun n x => imax n x.v) b
theorem newestL_le : ∀ (L : List Wr) (b c : Int), newestL b L ≤ c ↔ b ≤ c ∧ ∀ x ∈ L, x.v ≤ c
  | [], b, c => by simp [newestL]
  | x :: L, b, c => by
    have := newestL_le L (imax b x.v) c
    unfold newestL at this ⊢
    rw [List.foldl_cons, this]
    unfold imax
    simp only [List.mem_cons, forall_eq_or_imp]
    split <;> constructor <;> rintro ⟨h1, h2⟩
    · exact ⟨by omega, h1, h2⟩
    · exact ⟨h2.1, h2.2⟩
    · exact ⟨h1, by omega, h2⟩
    · exact ⟨h1, h2.2⟩
theorem newestL_take {b : Int} {L : List Wr} {i : Nat} (hi : i < L.length) : newestL b (L.take (i + 1)) = imax (newestL b (L.take i)) L[i].v := by
  rw [List.take_add_one, List.getElem?_eq_getElem hi]
  unfold newestL
  rw [List.foldl_append]
  rfl
/-- what was written above the floor is known by a key of it -/
def Top (m : Mk) : Prop := m.most ≤ m.floor ∨ ∃ k, m.f k = m.most
theorem Rep.newest {m : Mk} {L : List Wr} (h : Rep m.f m.floor L) (hok : m.Ok) (ht : Top m) (v : Int) : v ≤ newestL m.floor L ↔ v ≤ m.floor ∨ v ≤ m.most := by
  have hn : ∀ c, newestL m.floor L ≤ c ↔ m.floor ≤ c ∧ m.most ≤ c ∨ m.floor ≤ c ∧ m.most ≤ c := fun c => by
    rw [newestL_le, or_self]
    constructor
    · rintro ⟨h1, h2⟩
      refine ⟨h1, ?_⟩
      rcases ht with ht | ⟨k, hk⟩
      · omega
      · by_cases hl : m.most ≤ m.floor
        · omega
        · obtain ⟨x, hx, hxk⟩ := h.all k (by omega)
          have := h.says x hx k hxk
          have := h2 x hx
          omega
    · rintro ⟨h1, h2⟩
      refine ⟨h1, fun x hx => ?_⟩
      have := h.says x hx x.s.1 ⟨Std.IsPreorder.le_refl _, (h.ne x hx).1⟩
      have := hok.f x.s.1
      omega
  have := hn (v - 1)
  omega

/-! ### Last -/
/-- the greatest version of those that have keys of a span -/
def lastL (s : K × K) (n : Int) (L : List Wr) : Int := L.foldl (fun n x => if mx s.1 x.s.1 < mn s.2 x.s.2 then imax n x.v else n) n
theorem lastL_take {s : K × K} {n : Int} {L : List Wr} {i : Nat} (hi : i < L.length) : lastL s n (L.take (i + 1)) = if mx s.1 L[i].s.1 < mn s.2 L[i].s.2 then imax (lastL s n (L.take i)) L[i].v else lastL s n (L.take i) := by
  rw [List.take_add_one, List.getElem?_eq_getElem hi]
  unfold lastL
  rw [List.foldl_append]
  rfl
theorem lastL_spec (s : K × K) : ∀ (L : List Wr) (n : Int), n ≤ lastL s n L ∧ (∀ x ∈ L, mx s.1 x.s.1 < mn s.2 x.s.2 → x.v ≤ lastL s n L) ∧ (lastL s n L = n ∨ ∃ x ∈ L, mx s.1 x.s.1 < mn s.2 x.s.2 ∧ x.v = lastL s n L)
  | [], n => ⟨Int.le_refl _, by simp, .inl rfl⟩
  | y :: L, n => by
    have ih := lastL_spec s L (if mx s.1 y.s.1 < mn s.2 y.s.2 then imax n y.v else n)
    have e : lastL s n (y :: L) = lastL s (if mx s.1 y.s.1 < mn s.2 y.s.2 then imax n y.v else n) L := rfl
    rw [e]
    generalize hz : lastL s (if mx s.1 y.s.1 < mn s.2 y.s.2 then imax n y.v else n) L = z at ih ⊢
    obtain ⟨h1, h2, h3⟩ := ih
    by_cases hy : mx s.1 y.s.1 < mn s.2 y.s.2
    · rw [if_pos hy] at h1 h3
      unfold imax at h1 h3
      refine ⟨by split at h1 <;> omega, fun x hx hm => ?_, ?_⟩
      · rcases List.mem_cons.1 hx with rfl | hx
        · split at h1 <;> omega
        · exact h2 x hx hm
      · rcases h3 with h3 | ⟨x, hx, h⟩
        · split at h3
          · exact .inr ⟨y, by simp, hy, h3.symm⟩
          · exact .inl h3
        · exact .inr ⟨x, by simp [hx], h⟩
    · rw [if_neg hy] at h1 h3
      refine ⟨h1, fun x hx hm => ?_, ?_⟩
      · rcases List.mem_cons.1 hx with rfl | hx
        · exact absurd hm hy
        · exact h2 x hx hm
      · rcases h3 with h3 | ⟨x, hx, h⟩
        · exact .inl h3
        · exact .inr ⟨x, by simp [hx], h⟩
/-- the marks between lo and hi are those that a span meets or touches -/
structure Beside (L : List Wr) (s : K × K) (lo hi : Nat) : Prop where
  le : lo ≤ hi
  len : hi ≤ L.length
  below : ∀ x ∈ L.take lo, x.s.2 < s.1
  above : ∀ x ∈ L.drop hi, s.2 < x.s.1
  touch : ∀ x ∈ (L.take hi).drop lo, s.1 ≤ x.s.2 ∧ x.s.1 ≤ s.2
theorem Beside.split {L : List Wr} {s : K × K} {lo hi : Nat} (h : Beside L s lo hi) : L = L.take lo ++ (L.take hi).drop lo ++ L.drop hi := by
  have h1 : L.take lo = (L.take hi).take lo := by rw [List.take_take, Nat.min_eq_left h.le]
  rw [h1, List.take_append_drop, List.take_append_drop]
theorem Beside.mid {L : List Wr} {s : K × K} {lo hi : Nat} (h : Beside L s lo hi) {x : Wr} (hx : x ∈ L) : x ∈ L.take lo ∨ x ∈ (L.take hi).drop lo ∨ x ∈ L.drop hi := by
  rw [h.split, List.mem_append, List.mem_append, or_assoc] at hx
  exact hx
theorem meet_key {a b : K × K} : mx a.1 b.1 < mn a.2 b.2 ↔ ∃ k, has a k ∧ has b k := by
  constructor
  · intro h
    refine ⟨mx a.1 b.1, ?_⟩
    rcases mx_cases a.1 b.1 with ⟨e1, e2⟩ | ⟨e1, e2⟩ <;> rcases mn_cases a.2 b.2 with ⟨e3, e4⟩ | ⟨e3, e4⟩ <;> rw [e2, e4] at h <;> rw [e2] <;> unfold has <;> grind
  · rintro ⟨k, h1, h2⟩
    unfold has at h1 h2
    rcases mx_cases a.1 b.1 with ⟨e1, e2⟩ | ⟨e1, e2⟩ <;> rcases mn_cases a.2 b.2 with ⟨e3, e4⟩ | ⟨e3, e4⟩ <;> rw [e2, e4] <;> grind
theorem Rep.last {m : Mk} {L : List Wr} (h : Rep m.f m.floor L) (hok : m.Ok) {s : K × K} {lo hi : Nat} (hb : Beside L s lo hi) : LastIs m s (lastL s 0 ((L.take hi).drop lo)) := by
  obtain ⟨h1, h2, h3⟩ := lastL_spec s ((L.take hi).drop lo) 0
  generalize lastL s 0 ((L.take hi).drop lo) = z at h1 h2 h3
  have hlow := hok.low
  have key : ∀ k, has s k → m.floor < m.f k → ∃ x ∈ (L.take hi).drop lo, has x.s k := fun k hk hf => by
    obtain ⟨x, hx, hxk⟩ := h.all k hf
    rcases hb.mid hx with hx | hx | hx
    · have := hb.below x hx; unfold has at hk hxk; grind
    · exact ⟨x, hx, hxk⟩
    · have := hb.above x hx; unfold has at hk hxk; grind
  have hin : ∀ x ∈ (L.take hi).drop lo, x ∈ L := fun x hx => by rw [hb.split]; simp [hx]
  have hle : ∀ k, has s k → m.f k ≤ m.floor ∨ m.f k ≤ z := fun k hk => by
    by_cases hf : m.floor < m.f k
    · obtain ⟨x, hx, hxk⟩ := key k hk hf
      right
      rw [h.says x (hin x hx) k hxk]
      exact h2 x hx (meet_key.2 ⟨k, hk, hxk⟩)
    · omega
  rcases h3 with rfl | ⟨x, hx, hm, rfl⟩
  · refine .inl ⟨rfl, fun k hk => ?_⟩
    rcases hle k hk with h | h
    · exact h
    · omega
  · obtain ⟨k, hk, hxk⟩ := meet_key.1 hm
    have hv := (h.ne x (hin x hx)).2
    refine .inr ⟨hv, ⟨k, hk, h.says x (hin x hx) k hxk⟩, fun k hk => ?_⟩
    rcases hle k hk with h | h
    · omega
    · exact h

/-! ### write -/
/-- what write knows when it has gone through the first marks P of those beside s -/
structure WInv (f : K → Int) (s : K × K) (v : Int) (P : List Wr) (x : K × K) (R : List Wr) : Prop where
  keys : ∀ k, has x k ↔ has s k ∨ ∃ y ∈ P, y.v = v ∧ has y.s k
  wide : x.1 ≤ s.1 ∧ s.2 ≤ x.2
  frm : x.1 = s.1 ∨ ∃ y ∈ P, y.v = v ∧ y.s.1 = x.1
  to : x.2 = s.2 ∨ ∃ y ∈ P, y.v = v ∧ y.s.2 = x.2
  rest : ∀ r ∈ R, r.s.1 < r.s.2 ∧ (∃ y ∈ P, y.v ≠ v ∧ r.v = y.v ∧ y.s.1 ≤ r.s.1 ∧ r.s.2 ≤ y.s.2) ∧ ∀ k, has r.s k → ¬ has s k
  all : ∀ y ∈ P, y.v ≠ v → ∀ k, has y.s k → ¬ has s k → ∃ r ∈ R, has r.s k
  rise : R.Pairwise Ahead
theorem WInv.start (f : K → Int) (s : K × K) (v : Int) : WInv f s v [] s [] :=
  ⟨fun k => by simp, ⟨Std.IsPreorder.le_refl _, Std.IsPreorder.le_refl _⟩, .inl rfl, .inl rfl, by simp, by simp, .nil⟩
/-- one of the same version is taken in -/
theorem WInv.same {f : K → Int} {s : K × K} {v : Int} {P : List Wr} {x : K × K} {R : List Wr} {y : Wr} (h : WInv f s v P x R) (hy : y.s.1 < y.s.2) (hv : y.v = v) (h1 : y.s.1 ≤ s.2) (h2 : s.1 ≤ y.s.2) :
    WInv f s v (P ++ [y]) (mn x.1 y.s.1, mx x.2 y.s.2) R := by
  have hw := h.wide
  refine ⟨fun k => ?_, ?_, ?_, ?_, fun r hr => ?_, fun z hz hzv => ?_, h.rise⟩
  · have hk := h.keys k
    have e : (has s k ∨ ∃ z ∈ P ++ [y], z.v = v ∧ has z.s k) ↔ has x k ∨ has y.s k := by
      rw [hk]
      constructor
      · rintro (h | ⟨z, hz, h3, h4⟩)
        · exact .inl (.inl h)
        · rcases List.mem_append.1 hz with hz | hz
          · exact .inl (.inr ⟨z, hz, h3, h4⟩)
          · rw [List.mem_singleton] at hz; subst hz; exact .inr h4
      · rintro ((h | ⟨z, hz, h3, h4⟩) | h)
        · exact .inl h
        · exact .inr ⟨z, by simp [hz], h3, h4⟩
        · exact .inr ⟨y, by simp, hv, h⟩
    rw [e]
    unfold has
    rcases mn_cases x.1 y.s.1 with ⟨e1, e2⟩ | ⟨e1, e2⟩ <;> rcases mx_cases x.2 y.s.2 with ⟨e3, e4⟩ | ⟨e3, e4⟩ <;> simp only [e2, e4] <;> grind
  · rcases mn_cases x.1 y.s.1 with ⟨e1, e2⟩ | ⟨e1, e2⟩ <;> rcases mx_cases x.2 y.s.2 with ⟨e3, e4⟩ | ⟨e3, e4⟩ <;> simp only [e2, e4] <;> grind
  · rcases mn_cases x.1 y.s.1 with ⟨e1, e2⟩ | ⟨e1, e2⟩ <;> simp only [e2]
    · exact .inr ⟨y, by simp, hv, rfl⟩
    · rcases h.frm with h | ⟨z, hz, h⟩
      · exact .inl h
      · exact .inr ⟨z, by simp [hz], h⟩
  · rcases mx_cases x.2 y.s.2 with ⟨e3, e4⟩ | ⟨e3, e4⟩ <;> simp only [e4]
    · exact .inr ⟨y, by simp, hv, rfl⟩
    · rcases h.to with h | ⟨z, hz, h⟩
      · exact .inl h
      · exact .inr ⟨z, by simp [hz], h⟩
  · obtain ⟨h3, ⟨z, hz, h4⟩, h5⟩ := h.rest r hr
    exact ⟨h3, ⟨z, by simp [hz], h4⟩, h5⟩
  · rcases List.mem_append.1 hz with hz | hz
    · exact h.all z hz hzv
    · rw [List.mem_singleton] at hz; subst hz; exact absurd hv hzv
/-- of one of another version its other keys are left -/
theorem WInv.other {f : K → Int} {s : K × K} {v : Int} {P : List Wr} {x : K × K} {R : List Wr} {y : Wr} {W : List (K × K)} (h : WInv f s v P x R) (hv : y.v ≠ v) (ha : ∀ z ∈ P, Ahead z y)
    (hW : Fits W (fun k => has y.s k ∧ ¬ has x k)) : WInv f s v (P ++ [y]) x (R ++ W.map fun u => ⟨u, y.v⟩) := by
  have hsub : ∀ u ∈ W, y.s.1 ≤ u.1 ∧ u.2 ≤ y.s.2 ∧ u.1 < u.2 := fun u hu => by
    have hne := hW.1.ne u hu
    have h1 := (hW.2 u.1).1 ⟨u, hu, Std.IsPreorder.le_refl _, hne⟩
    refine ⟨h1.1.1, ?_, hne⟩
    by_cases hc : u.2 ≤ y.s.2
    · exact hc
    · have h2 := (hW.2 (mx u.1 y.s.2)).1 ⟨u, hu, by rcases mx_cases u.1 y.s.2 with ⟨e1, e2⟩ | ⟨e1, e2⟩ <;> rw [e2] <;> unfold has <;> grind⟩
      rcases mx_cases u.1 y.s.2 with ⟨e1, e2⟩ | ⟨e1, e2⟩ <;> rw [e2] at h2 <;> unfold has at h2 <;> grind
  refine ⟨fun k => ?_, h.wide, ?_, ?_, fun r hr => ?_, fun z hz hzv k hk hns => ?_, ?_⟩
  · rw [h.keys k]
    constructor
    · rintro (h | ⟨z, hz, h3, h4⟩)
      · exact .inl h
      · exact .inr ⟨z, by simp [hz], h3, h4⟩
    · rintro (h | ⟨z, hz, h3, h4⟩)
      · exact .inl h
      · rcases List.mem_append.1 hz with hz | hz
        · exact .inr ⟨z, hz, h3, h4⟩
        · rw [List.mem_singleton] at hz; subst hz; exact absurd h3 hv
  · rcases h.frm with h | ⟨z, hz, h⟩
    · exact .inl h
    · exact .inr ⟨z, by simp [hz], h⟩
  · rcases h.to with h | ⟨z, hz, h⟩
    · exact .inl h
    · exact .inr ⟨z, by simp [hz], h⟩
  · rcases List.mem_append.1 hr with hr | hr
    · obtain ⟨h3, ⟨z, hz, h4⟩, h5⟩ := h.rest r hr
      exact ⟨h3, ⟨z, by simp [hz], h4⟩, h5⟩
    · obtain ⟨u, hu, rfl⟩ := List.mem_map.1 hr
      obtain ⟨h3, h4, h5⟩ := hsub u hu
      refine ⟨h5, ⟨y, by simp, hv, rfl, h3, h4⟩, fun k hk hsk => ?_⟩
      exact ((hW.2 k).1 ⟨u, hu, hk⟩).2 ((h.keys k).2 (.inl hsk))
  · rcases List.mem_append.1 hz with hz | hz
    · obtain ⟨r, hr, hrk⟩ := h.all z hz hzv k hk hns
      exact ⟨r, by simp [hr], hrk⟩
    · rw [List.mem_singleton] at hz
      subst hz
      have hx : ¬ has x k := fun hx => by
        rcases (h.keys k).1 hx with h1 | ⟨u, hu, _, h2⟩
        · exact hns h1
        · have := (ha u hu).le
          unfold has at hk h2
          grind
      obtain ⟨u, hu, huk⟩ := (hW.2 k).2 ⟨hk, hx⟩
      exact ⟨⟨u, z.v⟩, List.mem_append_right _ (List.mem_map.2 ⟨u, hu, rfl⟩), huk⟩
  · refine List.pairwise_append.2 ⟨h.rise, ?_, fun r hr q hq => ?_⟩
    · rw [List.pairwise_map]
      exact (normal_pair hW.1).imp fun h => .inl h
    · obtain ⟨u, hu, rfl⟩ := List.mem_map.1 hq
      obtain ⟨_, ⟨z, hz, h1, h2, h3, h4⟩, _⟩ := h.rest r hr
      exact (ha z hz).of h4 (hsub u hu).1 h2 rfl
/-- what is put in place of them -/
theorem WInv.done {f : K → Int} {b : Int} {L : List Wr} {s : K × K} {v : Int} {lo hi : Nat} {x : K × K} {R S : List Wr} (hL : Rep f b L) (hs : s.1 < s.2) (hbv : b < v) (hb : Beside L s lo hi)
    (h : WInv f s v ((L.take hi).drop lo) x R) (hp : (R ++ [(⟨x, v⟩ : Wr)]).Perm S) (ho : S.Pairwise fun a c => ¬ c.s.1 < a.s.1) :
    Rep (fun k => if has s k then v else f k) b (L.take lo ++ S ++ L.drop hi) := by
  have hin : ∀ y ∈ (L.take hi).drop lo, y ∈ L := fun x hx => by rw [hb.split]; simp [hx]
  have hmem : ∀ r, r ∈ S ↔ r ∈ R ∨ r = ⟨x, v⟩ := fun r => by rw [← hp.mem_iff]; simp
  have hx12 : x.1 < x.2 := by have := h.wide; grind
  -- no key of another version's rest is in x
  have hRx : ∀ r ∈ R, r.v ≠ v ∧ ∀ k, has r.s k → ¬ has x k := fun r hr => by
    obtain ⟨h1, ⟨y, hy, h2, h3, h4, h5⟩, h6⟩ := h.rest r hr
    refine ⟨by rw [h3]; exact h2, fun k hk hx => ?_⟩
    rcases (h.keys k).1 hx with h7 | ⟨z, hz, h7, h8⟩
    · exact h6 k hk h7
    · have e1 := hL.says z (hin z hz) k h8
      have e2 := hL.says y (hin y hy) k (by unfold has at hk ⊢; grind)
      omega
  have hnS : ∀ r ∈ S, r.s.1 < r.s.2 := fun r hr => by
    rcases (hmem r).1 hr with hr | rfl
    · exact (h.rest r hr).1
    · exact hx12
  have hapart : (R ++ [(⟨x, v⟩ : Wr)]).Pairwise fun a c => Ahead a c ∨ Ahead c a := by
    refine List.pairwise_append.2 ⟨h.rise.imp fun h => .inl h, by simp, fun r hr q hq => ?_⟩
    rw [List.mem_singleton] at hq
    subst hq
    obtain ⟨h1, h2⟩ := hRx r hr
    have h3 := (h.rest r hr).1
    unfold Ahead
    by_cases hc : r.s.1 < x.1
    · left
      by_cases hd : r.s.2 ≤ x.1
      · by_cases he : r.s.2 = x.1
        · exact .inr ⟨he, h1⟩
        · left; grind
      · exact absurd (show has x x.1 from ⟨Std.IsPreorder.le_refl _, hx12⟩) (h2 x.1 (by unfold has; grind))
    · right
      by_cases hd : x.2 ≤ r.s.1
      · by_cases he : x.2 = r.s.1
        · exact .inr ⟨he, fun e => h1 e.symm⟩
        · left; grind
      · exact absurd (show has x r.s.1 by unfold has; grind) (h2 r.s.1 (by unfold has; grind))
  have hSrise : S.Pairwise Ahead := by
    have h1 := (hp.pairwise_iff (R := fun a c => Ahead a c ∨ Ahead c a) (fun {a c} h => h.symm)).1 hapart
    refine (h1.and ho).imp_of_mem ?_
    rintro a c ha hc ⟨h2 | h2, h3⟩
    · exact h2
    · have := h2.le
      have := hnS c hc
      have := hnS a ha
      grind
  have hsplit := hL.rise
  rw [hb.split, List.pairwise_append, List.pairwise_append] at hsplit
  obtain ⟨⟨hA, hM, hAM⟩, hD, hAD⟩ := hsplit
  have hlo : ∀ p ∈ L.take lo, ∀ r ∈ S, Ahead p r := fun p hp r hr => by
    have hp1 := hb.below p hp
    rcases (hmem r).1 hr with hr | rfl
    · obtain ⟨h1, ⟨y, hy, h2, h3, h4, h5⟩, h6⟩ := h.rest r hr
      exact (hAM p hp y hy).of (Std.IsPreorder.le_refl _) h4 rfl h3
    · rcases h.frm with e | ⟨y, hy, h2, h3⟩
      · left; rw [e]; exact hp1
      · exact (hAM p hp y hy).of (Std.IsPreorder.le_refl _) (by rw [h3]; exact Std.IsPreorder.le_refl _) rfl h2.symm
  have hhi : ∀ r ∈ S, ∀ q ∈ L.drop hi, Ahead r q := fun r hr q hq => by
    have hq1 := hb.above q hq
    rcases (hmem r).1 hr with hr | rfl
    · obtain ⟨h1, ⟨y, hy, h2, h3, h4, h5⟩, h6⟩ := h.rest r hr
      exact (hAD y (by simp [hy]) q hq).of h5 (Std.IsPreorder.le_refl _) h3 rfl
    · rcases h.to with e | ⟨y, hy, h2, h3⟩
      · left; rw [e]; exact hq1
      · exact (hAD y (by simp [hy]) q hq).of (by rw [h3]; exact Std.IsPreorder.le_refl _) (Std.IsPreorder.le_refl _) h2.symm rfl
  have hinL : ∀ p ∈ L.take lo ++ S ++ L.drop hi, (p ∈ L ∧ ((p.s.2 < s.1) ∨ s.2 < p.s.1)) ∨ p ∈ S := fun p hp => by
    rw [List.mem_append, List.mem_append] at hp
    rcases hp with (hp | hp) | hp
    · exact .inl ⟨List.mem_of_mem_take hp, .inl (hb.below p hp)⟩
    · exact .inr hp
    · exact .inl ⟨List.mem_of_mem_drop hp, .inr (hb.above p hp)⟩
  refine ⟨fun p hp => ?_, fun p hp k hk => ?_, fun k hk => ?_, ?_⟩
  · rcases hinL p hp with ⟨h1, _⟩ | h1
    · exact hL.ne p h1
    · refine ⟨hnS p h1, ?_⟩
      rcases (hmem p).1 h1 with h2 | rfl
      · obtain ⟨_, ⟨y, hy, _, h3, _⟩, _⟩ := h.rest p h2
        rw [h3]
        exact (hL.ne y (hin y hy)).2
      · exact hbv
  · rcases hinL p hp with ⟨h1, h2⟩ | h1
    · have hn : ¬ has s k := by unfold has at hk ⊢; grind
      simp only [if_neg hn]
      exact hL.says p h1 k hk
    · rcases (hmem p).1 h1 with h2 | rfl
      · obtain ⟨_, ⟨y, hy, _, h3, h4, h5⟩, h6⟩ := h.rest p h2
        simp only [if_neg (h6 k hk)]
        rw [h3]
        exact hL.says y (hin y hy) k (by unfold has at hk ⊢; grind)
      · by_cases hsk : has s k
        · simp only [if_pos hsk]
        · simp only [if_neg hsk]
          rcases (h.keys k).1 hk with h2 | ⟨y, hy, h2, h3⟩
          · exact absurd h2 hsk
          · rw [hL.says y (hin y hy) k h3, h2]
  · by_cases hsk : has s k
    · exact ⟨⟨x, v⟩, by simp [(hmem _).2 (.inr rfl)], (h.keys k).2 (.inl hsk)⟩
    · simp only [if_neg hsk] at hk
      obtain ⟨y, hy, hyk⟩ := hL.all k hk
      rcases hb.mid hy with hy | hy | hy
      · exact ⟨y, by simp [hy], hyk⟩
      · by_cases hv : y.v = v
        · exact ⟨⟨x, v⟩, by simp [(hmem _).2 (.inr rfl)], (h.keys k).2 (.inr ⟨y, hy, hv, hyk⟩)⟩
        · obtain ⟨r, hr, hrk⟩ := h.all y hy hv k hyk hsk
          exact ⟨r, by simp [(hmem _).2 (.inl hr)], hrk⟩
      · exact ⟨y, by simp [hy], hyk⟩
  · refine List.pairwise_append.2 ⟨List.pairwise_append.2 ⟨hA, hSrise, hlo⟩, hD, fun p hp q hq => ?_⟩
    rcases List.mem_append.1 hp with hp | hp
    · exact hAD p (by simp [hp]) q hq
    · exact hhi p hp q hq
/-- a write makes at most two marks more -/
theorem write_len {f : K → Int} {b v : Int} {s : K × K} {L L' : List Wr} (h : Rep f b L) (h' : Rep (fun k => if has s k then v else f k) b L') : L'.length ≤ L.length + 2 := by
  obtain ⟨l, hn, e, hl⟩ := h.size
  obtain ⟨l', hn', e', hl'⟩ := h'.size
  have := nodup_len l' (s.1 :: s.2 :: l) hn' (fun k hk => by
    have hst := (hl' k).1 hk
    by_cases e1 : k = s.1
    · simp [e1]
    by_cases e2 : k = s.2
    · simp [e2]
    simp only [List.mem_cons, e1, e2, false_or]
    refine (hl k).2 ?_
    obtain ⟨h1, h2⟩ := hst
    simp only at h1 h2
    by_cases hk : has s k
    · exfalso
      obtain ⟨y, h3, h4, h5⟩ := h2 s.1 (by unfold has at hk; grind)
      rw [if_pos hk, if_pos (show has s y by unfold has at hk ⊢; grind)] at h5
      exact h5 rfl
    · rw [if_neg hk] at h1
      refine ⟨h1, fun j hj => ?_⟩
      by_cases hlt : k < s.1
      · obtain ⟨y, h3, h4, h5⟩ := h2 j hj
        rw [if_neg hk, if_neg (show ¬ has s y by unfold has; grind)] at h5
        exact ⟨y, h3, h4, h5⟩
      · by_cases hgt : s.2 < k
        · obtain ⟨y, h3, h4, h5⟩ := h2 (mx j s.2) (by rcases mx_cases j s.2 with ⟨e1, e2⟩ | ⟨e1, e2⟩ <;> rw [e2] <;> grind)
          have h6 : j ≤ y ∧ s.2 ≤ y := by rcases mx_cases j s.2 with ⟨e1, e2⟩ | ⟨e1, e2⟩ <;> rw [e2] at h3 <;> grind
          rw [if_neg hk, if_neg (show ¬ has s y by unfold has; grind)] at h5
          exact ⟨y, h6.1, h4, h5⟩
        · exact absurd (show has s k by unfold has; grind) hk)
  simp only [List.length_cons] at this
  omega
end Go.Proofs.Ytcmpbhcldaogiaa
namespace Go.Proofs.Ytcmpbhcldaogiaa
open Go.RowKit
attribute [local go_sem] less_eq same_eq le_eq ge_eq gt_eq

/-- blocks that stood in w and were none of G -/
def Else (w : World) (G : Nat → Prop) : Nat → Prop := fun i => ¬ G i ∧ i < w.heap.size
def I64 (n : Int) : Prop := -9223372036854775808 ≤ n ∧ n < 9223372036854775808
/-- what is read of the program's marks at block q -/
def PmRd (w : World) (q : Nat) (floor : Int) (L : List Wr) : Prop :=
  ∃ A cap, Whole w q 51 [.int .i64 floor, .slice A L.length cap] ∧ RdW w w.heap.size (.slice A L.length cap) L ∧ ((A = none ∧ cap = 0 ∧ L = []) ∨ ∃ g, A = some ⟨g, 0, none⟩)
/-- the program's marks at block q, in row ov -/
structure PmL (w : World) (base q : Nat) (ov : Option Nat) (floor : Int) (L : List Wr) : Prop where
  blk : ∃ A cap, Whole w q 51 [.int .i64 floor, .slice A L.length cap] ∧ OwnMk w base (.slice A L.length cap) L ∧ Value.ownBlock (.slice A L.length cap) = ov
  low : base ≤ q ∧ base ≤ w.heap.size
def PmD (q : Nat) (ov : Option Nat) : Nat → Prop := fun i => i = q ∨ some i = ov
theorem Own.apartM {α β : Type} {enc : α → List Value} {k : Nat} {e : TypeId} {enc' : β → List Value} {k' : Nat} {e' : TypeId} {w : World} {base base' : Nat} {v v' : Value} {l : List α} {l' : List β} (h : Own enc k e w base v l) (h' : Own enc' k' e' w base' v' l') (hne : e ≠ e') {g : Nat} (hg : v.ownBlock = some g) : v'.ownBlock ≠ some g := by
  rcases h.row with ⟨rfl, _⟩ | ⟨g2, cap, cur, rfl, hb, hW, _⟩
  · cases hg
  · have e1 : g2 = g := by simpa [Value.ownBlock] using hg
    subst e1
    exact fun e2 => Own.apart h' hW (fun e => hne e.symm) e2.symm
section
variable {w w' : World} {base q : Nat} {ov : Option Nat} {D : Nat → Prop} {n : Nat} {m : Mk} {floor : Int} {L : List Wr}
theorem PmRd.next (h : PmRd w q floor L) (hb : Below w.heap.size w w') : PmRd w' q floor L := by
  obtain ⟨A, cap, hw, hr, hf⟩ := h
  exact ⟨A, cap, hw.below hb hw.size, hr.next hb, hf⟩
theorem PmL.rd (h : PmL w base q ov floor L) : PmRd w q floor L := by
  obtain ⟨A, cap, hw, ho, hv⟩ := h.blk
  refine ⟨A, cap, hw, Own.rd encW_len ho, ?_⟩
  rcases ho.form with ⟨e, h0⟩ | ⟨g, c, e, _⟩
  · injection e with e1 e2 e3
    exact .inl ⟨e1, e3, h0⟩
  · injection e with e1 e2 e3
    exact .inr ⟨g, e1⟩
theorem PmL.size (h : PmL w base q ov floor L) : q < w.heap.size := by
  obtain ⟨A, cap, hw, _⟩ := h.blk
  exact hw.size
theorem PmL.row (h : PmL w base q ov floor L) {g : Nat} (hg : ov = some g) : base ≤ g ∧ g < w.heap.size := by
  obtain ⟨A, cap, hw, ho, hv⟩ := h.blk
  exact ho.low (hv.trans hg)
theorem PmL.mv (h : PmL w base q ov floor L) (hm : Mv D w w') (h1 : ¬ D q) (h2 : ∀ g, ov = some g → ¬ D g) : PmL w' base q ov floor L := by
  obtain ⟨A, cap, hw, ho, hv⟩ := h.blk
  exact ⟨⟨A, cap, hm.whole hw h1, ho.mvG hm (fun g hg => h2 g (hv ▸ hg)), hv⟩, ⟨h.low.1, Nat.le_trans h.low.2 hm.size⟩⟩
theorem PmL.new (h : PmL w base q ov floor L) (hb : Below w.heap.size w w') : PmL w' base q ov floor L :=
  h.mv (D := fun i => w.heap.size ≤ i) (Mv.of_below hb) (fun e => by have := h.size; omega) (fun g hg e => by have := (h.row hg).2; omega)
/-- what grows an own slice of another type leaves it -/
theorem PmL.grown {α : Type} {enc : α → List Value} {k : Nat} {e : TypeId} {base' : Nat} {v : Value} {l : List α} (h : PmL w base q ov floor L) (ho : Own enc k e w base' v l) (h1 : e ≠ 51) (h2 : e ≠ 60) (hg : w.grownBy w' v.ownBlock) : PmL w' base q ov floor L := by
  obtain ⟨A, cap, hw, hown, hv⟩ := h.blk
  refine h.mv (Mv.of_grown hg) (fun e => Own.apart ho hw h1 e) (fun g hg' e => ?_)
  exact Own.apartM ho hown h2 e.symm (hv.trans hg')
/-- an own slice of another type stays while these are written -/
theorem PmL.keeps {α : Type} {enc : α → List Value} {k : Nat} {e : TypeId} {base' : Nat} {v : Value} {l : List α} (h : PmL w base q ov floor L) (ho : Own enc k e w base' v l) (h1 : e ≠ 51) (h2 : e ≠ 60) (hm : Mv (PmD q ov) w w') : Own enc k e w' base' v l := by
  obtain ⟨A, cap, hw, hown, hv⟩ := h.blk
  refine ho.mvG hm (fun g hg => ?_)
  rintro (rfl | hi)
  · exact Own.apart ho hw h1 hg.symm
  · exact Own.apartM ho hown h2 hg (hv.trans hi.symm)
end
/-- what calls that write leave -/
structure PmW (w w' : World) (base q : Nat) (ov : Option Nat) (floor : Int) (L : List Wr) (ov' : Option Nat) : Prop where
  now : PmL w' base q ov' floor L
  moved : Mv (PmD q ov) w w'
  new : NewRow w ov ov'
theorem PmW.refl {w : World} {base q : Nat} {ov : Option Nat} {floor : Int} {L : List Wr} (h : PmL w base q ov floor L) : PmW w w base q ov floor L ov := ⟨h, Mv.refl _ _, fun _ h => .inl h⟩
theorem PmW.trans {w w' w2 : World} {base q : Nat} {ov ov' ov2 : Option Nat} {floor floor' : Int} {L L' : List Wr} (h : PmW w w' base q ov floor L ov') (h2 : PmW w' w2 base q ov' floor' L' ov2) : PmW w w2 base q ov floor' L' ov2 :=
  ⟨h2.now, h.moved.trans h2.moved (fun i hi hd => by
    rcases hd with rfl | hd
    · exact .inl rfl
    · rcases h.new i hd.symm with h3 | h3
      · exact .inr h3.symm
      · omega), h.new.trans h2.new h.moved.size⟩
theorem PmW.after {w w' w2 : World} {base q : Nat} {ov ov' : Option Nat} {floor : Int} {L : List Wr} (h : PmW w w' base q ov floor L ov') (hb : Below w'.heap.size w' w2) : PmW w w2 base q ov floor L ov' :=
  ⟨h.now.new hb, h.moved.trans (Mv.of_below hb) (fun i hi hd => by have := h.moved.size; omega), h.new⟩
/-- the slice stored anew, behind new blocks -/
theorem PmL.store {w wf w4 : World} {base q n4 : Nat} {ov : Option Nat} {floor : Int} {L L2 : List Wr} {A4 : Option Addr} {c4 : Nat} (h : PmL w base q ov floor L) (hF : Below w.heap.size w wf) (hg : wf.grownBy w4 ov) (hn : n4 = L2.length) (ho : OwnMk w4 base (.slice A4 n4 c4) L2) (hnew : NewRow wf ov (Value.ownBlock (.slice A4 n4 c4))) :
    PmW w (w4.setCell ⟨q, 1, none⟩ (.slice A4 n4 c4)) base q ov floor L2 (Value.ownBlock (.slice A4 n4 c4)) ∧ (∃ u, w4.cell? ⟨q, 1, none⟩ = some u) ∧ w4.frozen? ⟨q, 1, none⟩ = false ∧ w4.cell? ⟨q, 0, none⟩ = some (.int .i64 floor) := by
  subst hn
  obtain ⟨A, cap, hw, hown, hv⟩ := h.blk
  have hov : ov ≠ some q := fun e => Own.apart hown hw (by decide) (by rw [hv, e])
  have h1 : Mv (PmD q ov) w w4 := (Mv.of_new hF (PmD q ov)).trans (Mv.of_grown hg) (fun i _ e => .inr e)
  have h2 : Mv (PmD q ov) w (w4.setCell ⟨q, 1, none⟩ (.slice A4 L2.length c4)) := h1.setCell (p := ⟨q, 1, none⟩) (fun _ => .inl rfl) _
  have hw4 : Whole w4 q 51 _ := (Mv.of_grown hg).whole (hw.below hF hw.size) (fun e => hov e.symm)
  have hr4 : Mv (fun i => i = q) w4 (w4.setCell ⟨q, 1, none⟩ (.slice A4 L2.length c4)) := (Mv.refl (fun i => i = q) w4).setCell (p := ⟨q, 1, none⟩) (fun _ => rfl) _
  refine ⟨⟨⟨⟨A4, c4, hw4.put 1 _, ho.mvG hr4 (fun g hg e => Own.apart ho hw4 (by decide) (by rw [hg, e])), rfl⟩, ⟨h.low.1, Nat.le_trans h.low.2 h2.size⟩⟩, h2, fun g hg => ?_⟩, ⟨_, hw4.cell 1 _ rfl⟩, hw4.frozen 1, hw4.cell 0 _ rfl⟩
  rcases hnew g hg with h3 | h3
  · exact .inl h3
  · exact .inr (Nat.le_trans hF.size h3)
/-- the floor stored anew -/
theorem PmW.floor {w w' : World} {base q : Nat} {ov ov' : Option Nat} {floor : Int} {L : List Wr} (h : PmW w w' base q ov floor L ov') (v : Int) :
    PmW w (w'.setCell ⟨q, 0, none⟩ (.int .i64 v)) base q ov v L ov' ∧ (∃ u, w'.cell? ⟨q, 0, none⟩ = some u) ∧ w'.frozen? ⟨q, 0, none⟩ = false := by
  obtain ⟨A, cap, hw, hown, hv⟩ := h.now.blk
  have h2 : Mv (PmD q ov) w (w'.setCell ⟨q, 0, none⟩ (.int .i64 v)) := h.moved.setCell (p := ⟨q, 0, none⟩) (fun _ => .inl rfl) _
  have hr4 : Mv (fun i => i = q) w' (w'.setCell ⟨q, 0, none⟩ (.int .i64 v)) := (Mv.refl (fun i => i = q) w').setCell (p := ⟨q, 0, none⟩) (fun _ => rfl) _
  exact ⟨⟨⟨⟨A, cap, hw.put 0 _, hown.mvG hr4 (fun g hg e => Own.apart hown hw (by decide) (by rw [hg, e])), hv⟩, ⟨h.now.low.1, Nat.le_trans h.now.low.2 hr4.size⟩⟩, h2, h.new⟩, ⟨_, hw.cell 0 _ rfl⟩, hw.frozen 0⟩
/-- the marks at block q; their blocks are G; n transactions were judged -/
def MkAt (w : World) (base q : Nat) (G : Nat → Prop) (n : Nat) (m : Mk) : Prop :=
  ∃ ov L, PmL w base q ov m.floor L ∧ G = PmD q ov ∧ Rep m.f m.floor L ∧ Top m ∧ L.length ≤ 48 * n ∧ m.Ok ∧ n ≤ 64
section
variable {w w' : World} {base q n : Nat} {G : Nat → Prop} {m : Mk}
theorem MkAt.low (h : MkAt w base q G n m) : base ≤ w.heap.size ∧ ∀ i, G i → base ≤ i ∧ i < w.heap.size := by
  obtain ⟨ov, L, h1, rfl, _⟩ := h
  refine ⟨h1.low.2, fun i hi => ?_⟩
  rcases hi with rfl | hi
  · exact ⟨h1.low.1, h1.size⟩
  · exact h1.row hi.symm
theorem MkAt.mv {D : Nat → Prop} (h : MkAt w base q G n m) (hm : Mv D w w') (hn : ∀ i, G i → ¬ D i) : MkAt w' base q G n m := by
  obtain ⟨ov, L, h1, rfl, h2⟩ := h
  exact ⟨ov, L, h1.mv hm (hn q (.inl rfl)) (fun g hg => hn g (.inr hg.symm)), rfl, h2⟩
theorem MkAt.ok (h : MkAt w base q G n m) : m.Ok := by
  obtain ⟨ov, L, _, _, _, _, _, h, _⟩ := h
  exact h
end

set_option maxHeartbeats 1000000 in
set_option maxRecDepth 100000 in
theorem mknew_any (v : Int) (hv : I64 v) (w : World) :
    Calls Try.prog 8 #[.int .i64 v] w fun e w' => ∃ q G, e = .returned (.pointer (some ⟨q, 0, none⟩)) ∧ MkAt w' w.heap.size q G 0 (mnew v) ∧ Below w.heap.size w w' := by
  have hok := Mk.Ok.new hv.2
  go_enter Try.func8, Try.ntmps8
  go_wp2_with fail
  go_ret
  refine ⟨w.heap.size, _, rfl, ⟨none, [], ⟨⟨none, 0, ?_, Own.nil _ _, rfl⟩, Nat.le_refl _, by simp⟩, rfl, Rep.nil _ _ (fun k => hok.low), ?_, by simp, hok, by omega⟩, (Below.refl _ _).alloc (Nat.le_refl _) _⟩
  · have := Whole.fresh w 51 [.int .i64 (mnew v).floor, .slice none 0 0]
    have e : (mnew v).floor = max v 0 := by unfold mnew; simp only; split <;> omega
    rw [e] at this ⊢
    exact this
  · left
    exact hok.low
set_option maxHeartbeats 1000000 in
set_option maxRecDepth 100000 in
theorem mksize_any (base q n : Nat) (G : Nat → Prop) (m : Mk) (w : World) (h : MkAt w base q G n m) :
    Calls Try.prog 14 #[.pointer (some ⟨q, 0, none⟩)] w fun e w' => ∃ k : Nat, e = .returned (.int .i64 (k : Int)) ∧ SizeIs m.f m.floor k ∧ Below w.heap.size w w' := by
  obtain ⟨ov, L, h1, rfl, h2, _⟩ := h
  obtain ⟨A, cap, hw, ho, hv⟩ := h1.blk
  have c1 := hw.cell 1 _ rfl
  have HS := Lib.hid h2.size
  clear h1 h2 hw ho hv
  go_enter Try.func14, Try.ntmps14
  go_wp2_with fail
  go_ret
  exact ⟨L.length, rfl, HS.out, Below.refl _ _⟩
theorem mknone_judge (v : Int) (vv : Value) (w : World) : Calls Try.prog 11 #[.pointer none, .int .i64 v, vv] w fun e w' => ∃ A c, e = .returned (.tuple #[.slice A 0 c, .int .i64 1]) ∧ Below w.heap.size w w' := by
  go_enter Try.func11, Try.ntmps11
  go_wp2_with fail
  go_ret2
  exact ⟨_, _, rfl, Below.refl _ _⟩
set_option maxHeartbeats 1000000 in
set_option maxRecDepth 100000 in
theorem mknone_last (s : K × K) (w : World) : Calls Try.prog 12 #[.pointer none, .agg #[.string s.1, .string s.2]] w fun e w' => e = .returned (.tuple #[.int .i64 0, .bool false]) ∧ Below w.heap.size w w' := by
  go_enter Try.func12, Try.ntmps12
  go_wp2_with fail
  go_ret2
  exact ⟨rfl, (Below.refl _ _).alloc (Nat.le_refl _) _⟩
theorem mknone_forget (v : Int) (w : World) : Calls Try.prog 13 #[.pointer none, .int .i64 v] w fun e w' => e = .returned (.int .i64 1) ∧ Below w.heap.size w w' := by
  go_enter Try.func13, Try.ntmps13
  go_wp2_with fail
  go_ret
  exact ⟨rfl, (Below.refl _ _).alloc (Nat.le_refl _) _⟩
theorem mknone_size (w : World) : Calls Try.prog 14 #[.pointer none] w fun e w' => e = .returned (.int .i64 0) ∧ Below w.heap.size w w' := by
  go_enter Try.func14, Try.ntmps14
  go_wp2_with fail
  go_ret
  exact ⟨rfl, Below.refl _ _⟩

set_option maxHeartbeats 2000000 in
set_option maxRecDepth 100000 in
theorem newest_any (q : Nat) (floor : Int) (L : List Wr) (w : World) (h : PmRd w q floor L) (hl : L.length ≤ 1000000) :
    Calls Try.prog 16 #[.pointer (some ⟨q, 0, none⟩)] w fun e w' => e = .returned (.int .i64 (newestL floor L)) ∧ Below w.heap.size w w' := by
  obtain ⟨A, cap, hw, hr, _⟩ := h
  obtain ⟨A', c', e, hc, hi⟩ := hr.at
  injection e with e1 e2 e3
  subst e1 e3
  have c0 := hw.cell 0 _ rfl
  have c1 := hw.cell 1 _ rfl
  have hlt := hw.size
  clear hw hr
  have HI := Lib.hid hi; clear hi e2
  obtain ⟨R, hR⟩ : ∃ R, R = newestL floor L := ⟨_, rfl⟩
  rw [← hR]
  have HR := Lib.hid hR; clear hR
  obtain ⟨g, hg⟩ : ∃ g, g = w.heap.size := ⟨_, rfl⟩
  have HG := Lib.hid hg; clear hg
  go_enter Try.func16, Try.ntmps16
  go_wp2_with fail
  go_loopw [3, 15] (fun nv iv wr => ∃ (i : Nat) (z : Int), i ≤ L.length ∧ iv = .int .i64 i ∧ nv = .int .i64 z ∧ Hid (z = newestL floor (L.take i)) ∧ Hid (Below g w wr)) (fun _ iv _ => L.length - (intOf iv).toNat)
  case atStart => exact ⟨0, floor, Nat.zero_le _, rfl, rfl, Lib.hid rfl, Lib.hid (Below.refl _ _)⟩
  case round =>
    obtain ⟨i, z, hil, rfl, rfl, HZ, HB⟩ := hrel
    by_cases hlt2 : i < L.length
    · obtain ⟨b, o, rfl, hbB, k0, k1, k2⟩ := HI.out i hlt2
      rw [← HB.out.cell (p := ⟨b, _, none⟩) (by rw [HG.out]; exact hbB)] at k0
      rw [← HB.out.cell (p := ⟨b, _, none⟩) (by rw [HG.out]; exact hbB)] at k1
      rw [← HB.out.cell (p := ⟨b, _, none⟩) (by rw [HG.out]; exact hbB)] at k2
      have hz2 : max z L[i].v = newestL floor (L.take (i + 1)) := by
        rw [newestL_take hlt2, ← HZ.out]; unfold imax; split <;> omega
      have HZ2 := Lib.hid hz2; clear hz2
      generalize L[i] = x at k0 k1 k2 HZ2
      obtain ⟨⟨x1, x2⟩, xv⟩ := x
      simp only at k0 k1 k2 HZ2
      have HB2 := Lib.hid (show Below g w (wr.alloc (.cells #[.string x1, .string x2, .int .i64 xv] 60)) from HB.out.alloc (by rw [HG.out]; exact HB.out.size) _)
      clear c0 c1
      go_wp2_with fail
      go_roundw
      case rel => exact ⟨i + 1, _, by omega, by go_num, rfl, Lib.hid HZ2.out, HB2⟩
      case measure => simp [intOf]; omega
    · have hz2 : z = R := by rw [HR.out, HZ.out, List.take_of_length_le (by omega)]
      have HZ2 := Lib.hid hz2; clear hz2
      clear c0 c1
      go_wp2_with fail
      go_ret
      exact ⟨by rw [HZ2.out]; rfl, by have h := HB.out; rwa [HG.out] at h⟩
end Go.Proofs.Ytcmpbhcldaogiaa
namespace Go.Proofs.Ytcmpbhcldaogiaa
open Go.RowKit
attribute [local go_sem] less_eq same_eq le_eq ge_eq gt_eq

theorem Rep.froms {f : K → Int} {b : Int} {L : List Wr} (h : Rep f b L) : L.Pairwise fun x y => x.s.1 < y.s.1 :=
  h.rise.imp_of_mem fun {x y} hx hy hxy => by have := (h.ne x hx).1; have := hxy.le; grind
theorem Rep.tos {f : K → Int} {b : Int} {L : List Wr} (h : Rep f b L) : L.Pairwise fun x y => x.s.2 < y.s.2 :=
  h.rise.imp_of_mem fun {x y} hx hy hxy => by have := (h.ne y hy).1; have := hxy.le; grind
theorem beside_of {f : K → Int} {b : Int} {L : List Wr} (h : Rep f b L) {s : K × K} (hs : s.1 < s.2) {i j : Nat} {t : Bool} (hi : i ≤ L.length) (h1 : ∀ k (_ : k < L.length), k < i → L[k].s.2 < s.1) (h2 : ∀ k (_ : k < L.length), i ≤ k → ¬ L[k].s.2 < s.1)
    (hj : j ≤ L.length) (h3 : ∀ k (_ : k < L.length), k < j → L[k].s.1 < s.2) (h4 : ∀ k (_ : k < L.length), j ≤ k → ¬ L[k].s.1 < s.2) (ht : t = true ↔ ∃ h : j < L.length, L[j].s.1 = s.2) : Beside L s i (j + if t then 1 else 0) := by
  have hf := List.pairwise_iff_getElem.1 h.froms
  have hij : i ≤ j := by
    rcases Nat.lt_or_ge j i with hlt | hge
    · have hjl : j < L.length := by omega
      have e1 := h1 j hjl hlt
      have e2 := h4 j hjl (Nat.le_refl _)
      have e3 := (h.ne _ (List.getElem_mem hjl)).1
      grind
    · exact hge
  have hle : j + (if t then 1 else 0) ≤ L.length := by
    cases t with
    | true => obtain ⟨h, _⟩ := ht.1 rfl; simp only [if_true]; omega
    | false => simpa using hj
  refine ⟨by omega, hle, fun x hx => ?_, fun x hx => ?_, fun x hx => ?_⟩
  · obtain ⟨k, hk, rfl⟩ := List.mem_take_iff_getElem.1 hx
    exact h1 k (by omega) (by omega)
  · obtain ⟨k, hk, rfl⟩ := List.mem_drop_iff_getElem.1 hx
    cases t with
    | true =>
      obtain ⟨hj1, e⟩ := ht.1 rfl
      simp only [if_true] at hk ⊢
      have := hf j (j + 1 + k) hj1 (by omega) (by omega)
      rw [e] at this
      have e9 : L[j + 1 + k] = L[j + 1 + k] := rfl
      simpa [Nat.add_assoc] using this
    | false =>
      have hk' : j + k < L.length := by simp only [Bool.false_eq_true, if_false] at hk; omega
      have e1 := h4 (j + k) hk' (by omega)
      have e2 : L[j + k].s.1 ≠ s.2 := fun e => by
        by_cases hk0 : k = 0
        · subst hk0
          exact Bool.false_ne_true (ht.2 ⟨by omega, by simpa using e⟩)
        · have := hf j (j + k) (by omega) hk' (by omega)
          rw [e] at this
          exact h4 j (by omega) (Nat.le_refl _) this
      have e3 : s.2 < L[j + k].s.1 := by grind
      simpa using e3
  · obtain ⟨k, hk, rfl⟩ := List.mem_drop_iff_getElem.1 hx
    rw [List.length_take] at hk
    have hkl : i + k < L.length := by omega
    have e0 : (L.take (j + if t then 1 else 0))[i + k]'(by rw [List.length_take]; omega) = L[i + k] := by simp
    rw [e0]
    refine ⟨by have := h2 (i + k) hkl (by omega); grind, ?_⟩
    by_cases hkj : i + k < j
    · have := h3 (i + k) hkl hkj; grind
    · cases t with
      | true =>
        obtain ⟨hj1, e⟩ := ht.1 rfl
        simp only [if_true] at hk
        have e9 : i + k = j := by omega
        have e8 : L[i + k].s.1 = s.2 := by simp only [e9]; exact e
        grind
      | false => simp only [Bool.false_eq_true, if_false] at hk; omega

set_option maxHeartbeats 4000000 in
set_option maxRecDepth 100000 in
theorem beside_any (q : Nat) (floor : Int) (L : List Wr) (s : K × K) (f : K → Int) (b : Int) (w : World) (h : PmRd w q floor L) (hrep : Rep f b L) (hs : s.1 < s.2) (hl : L.length ≤ 1000000) :
    Calls Try.prog 21 #[.pointer (some ⟨q, 0, none⟩), .agg #[.string s.1, .string s.2]] w fun e w' => ∃ lo hi : Nat, e = .returned (.tuple #[.int .i64 lo, .int .i64 hi]) ∧ Beside L s lo hi ∧ Below w.heap.size w w' := by
  obtain ⟨A, cap, hw, hr, _⟩ := h
  obtain ⟨W1, hW1⟩ : ∃ W1, W1 = w.alloc (.cells #[.string s.1, .string s.2] 24) := ⟨_, rfl⟩
  have hB1 : Below w.heap.size w W1 := by rw [hW1]; exact (Below.refl _ w).alloc (Nat.le_refl _) _
  have hs1 : W1.heap.size = w.heap.size + 1 := by rw [hW1]; simp
  have hsp : Whole W1 w.heap.size 24 [.string s.1, .string s.2] := by rw [hW1]; exact Whole.fresh w _ [_, _]
  have hq1 : Whole W1 q 51 [.int .i64 floor, .slice A L.length cap] := hw.below hB1 hw.size
  have hr1 := hr.next hB1
  have hcells : ∀ X, Below W1.heap.size W1 X → X.cell? ⟨q, 1, none⟩ = some (.slice A L.length cap) ∧ X.cell? ⟨w.heap.size, 0, none⟩ = some (.string s.1) ∧ X.cell? ⟨w.heap.size, 1, none⟩ = some (.string s.2) := fun X hX =>
    ⟨(hq1.below hX hq1.size).cell 1 _ rfl, (hsp.below hX hsp.size).cell 0 _ rfl, (hsp.below hX hsp.size).cell 1 _ rfl⟩
  have hc1 := fun W (hW : Below W1.heap.size W1 W) => bsearch1_any L hrep.tos s.1 (.slice A L.length cap) W (hr1.next hW) (by omega)
  have hc2 := fun W (hW : Below W1.heap.size W1 W) => bsearch2_any L hrep.froms s.2 (.slice A L.length cap) W (hr1.next hW) (by omega)
  have hof := fun i j t (a1 : i ≤ L.length) a2 a3 (a4 : j ≤ L.length) a5 a6 a7 => beside_of (i := i) (j := j) (t := t) hrep hs a1 a2 a3 a4 a5 a6 a7
  have HC1 := Lib.hid hc1; clear hc1
  have HC2 := Lib.hid hc2; clear hc2
  have HOF := Lib.hid hof; clear hof
  have HCE := Lib.hid hcells; clear hcells
  have HB1 := Lib.hid hB1; clear hB1
  have hwz : w.heap.size < W1.heap.size := by omega
  clear hw hr hsp hq1 hr1 hrep
  go_enter Try.func21, Try.ntmps21
  have HW1 := Lib.hid hW1; clear hW1 hwz hs1
  go_wp2_with fail
  rw [← HW1.out]
  obtain ⟨z, hz⟩ : ∃ z, z = w.heap.size := ⟨_, rfl⟩
  rw [← hz] at HCE ⊢
  have HZ := Lib.hid hz; clear hz
  refine wp_region_planB [(true, 0), (true, 1), (true, 2), (true, 3), (true, 4), (true, 5), (false, 6), (true, 7), (true, 8), (true, 9), (true, 10)] (by kernel_rfl) (by kernel_rfl) (fun _ _ d _ _ h => by cases d <;> exact h) ?_
  have hd1 : Below W1.heap.size W1 W1.drew := (Below.refl _ _).drew
  iterate 6 (refine PlanB.take (v := ?_) rfl rfl ?_ ?_; rotate_left; (focus (intro X hX; obtain ⟨k0, k1, k2⟩ := HCE.out X (hd1.trans hX); go_simp; (try with_reducible rfl); done)); (try simp only [Act.put, List.setIfInBounds_toArray, List.set_cons_zero, List.set_cons_succ]))
  refine PlanB.step rfl rfl (fun Kk hKk => ?_)
  go_simp
  refine (HC1.out W1.drew hd1).mono ?_
  rintro e W2 ⟨i, hi, p1, p2, t1, rfl, _, hb2⟩
  refine hKk.out _ _ hb2 ?_
  clear hKk Kk
  have hd2 : Below W1.heap.size W1 W2 := hd1.trans hb2
  have P1 := Lib.hid p1; clear p1
  have P2 := Lib.hid p2; clear p2
  (try simp only [Act.put, List.setIfInBounds_toArray, List.set_cons_zero, List.set_cons_succ])
  repeat (refine PlanB.take (v := ?_) rfl rfl ?_ ?_; rotate_left; (focus (intro X hX; go_simp; (try with_reducible rfl); done)); (try simp only [Act.put, List.setIfInBounds_toArray, List.set_cons_zero, List.set_cons_succ]))
  simp only [PlanB]
  have HD2 := Lib.hid hd2; clear hd2 hb2 hd1
  go_wp2_with fail
  refine wp_region_planB [(true, 0), (true, 1), (true, 2), (true, 3), (true, 4), (true, 5), (false, 6), (true, 7), (true, 8), (true, 9), (true, 10), (true, 11)] (by kernel_rfl) (by kernel_rfl) (fun _ _ d _ _ h => by cases d <;> exact h) ?_
  have hd3 : Below W1.heap.size W1 W2.drew := HD2.out.drew
  iterate 6 (refine PlanB.take (v := ?_) rfl rfl ?_ ?_; rotate_left; (focus (intro X hX; obtain ⟨k0, k1, k2⟩ := HCE.out X (hd3.trans (hX.mono hd3.size)); go_simp; (try with_reducible rfl); done)); (try simp only [Act.put, List.setIfInBounds_toArray, List.set_cons_zero, List.set_cons_succ]))
  refine PlanB.step rfl rfl (fun Kk hKk => ?_)
  go_simp
  refine (HC2.out W2.drew hd3).mono ?_
  rintro e W3 ⟨j, hj, p3, p4, t2, rfl, p5, hb3⟩
  refine hKk.out _ _ hb3 ?_
  clear hKk Kk
  have hd4 : Below W1.heap.size W1 W3 := hd3.trans (hb3.mono hd3.size)
  have HFIN := Lib.hid (HOF.out i j t2 hi P1.out P2.out hj p3 p4 p5)
  (try simp only [Act.put, List.setIfInBounds_toArray, List.set_cons_zero, List.set_cons_succ])
  repeat (refine PlanB.take (v := ?_) rfl rfl ?_ ?_; rotate_left; (focus (intro X hX; go_simp; (try with_reducible rfl); done)); (try simp only [Act.put, List.setIfInBounds_toArray, List.set_cons_zero, List.set_cons_succ]))
  simp only [PlanB]
  have HD4 := Lib.hid (show Below w.heap.size w W3 from HB1.out.trans (hd4.mono HB1.out.size))
  clear hd4 hb3 hd3 p3 p4 p5
  cases t2 with
  | true =>
    have hw1 : IntKind.i64.wrap ((j : Int) + 1) = ((j + 1 : Nat) : Int) := by rw [IntKind.wrap_i64]; omega
    go_wp2_with fail
    go_ret2
    exact ⟨i, j + 1, rfl, HFIN.out, HD4.out⟩
  | false =>
    go_wp2_with fail
    go_ret2
    exact ⟨i, j, rfl, HFIN.out, HD4.out⟩
end Go.Proofs.Ytcmpbhcldaogiaa
namespace Go.Proofs.Ytcmpbhcldaogiaa
open Go.RowKit
attribute [local go_sem] less_eq same_eq le_eq ge_eq gt_eq

theorem meet_empty (a b : K × K) : decide ((meet a b).2 ≤ (meet a b).1) = !decide (mx a.1 b.1 < mn a.2 b.2) := by
  unfold meet
  by_cases h : mn a.2 b.2 ≤ mx a.1 b.1
  · rw [if_pos h, decide_eq_false (show ¬ mx a.1 b.1 < mn a.2 b.2 by grind)]
    exact decide_eq_true (Std.IsPreorder.le_refl _)
  · rw [if_neg h, decide_eq_true (show mx a.1 b.1 < mn a.2 b.2 by grind)]
    exact decide_eq_false h

set_option maxHeartbeats 8000000 in
set_option maxRecDepth 100000 in
theorem plast_any (q : Nat) (m : Mk) (L : List Wr) (s : K × K) (w : World) (h : PmRd w q m.floor L) (hrep : Rep m.f m.floor L) (hok : m.Ok) (hl : L.length ≤ 1000000) :
    Calls Try.prog 12 #[.pointer (some ⟨q, 0, none⟩), .agg #[.string s.1, .string s.2]] w fun e w' => ∃ k, e = .returned (.tuple #[.int .i64 k, .bool (decide (0 < k))]) ∧ LastIs m s k ∧ Below w.heap.size w w' := by
  have hbm : Below w.heap.size w (w.alloc (.cells #[.string s.1, .string s.2] 24)) := (Below.refl _ w).alloc (Nat.le_refl _) _
  have hem := fun W => empty_any s W
  have HEM := Lib.hid hem; clear hem
  by_cases hs : s.2 ≤ s.1
  · have hla : LastIs m s 0 := .inl ⟨rfl, fun k hk => by unfold has at hk; grind⟩
    rw [decide_eq_true hs] at HEM
    have HL := Lib.hid hla
    have HB := Lib.hid hbm
    clear hla hbm h hrep hok hs
    go_enter Try.func12, Try.ntmps12
    go_wp2_with fail
    refine (HEM.out _).mono ?_
    rintro e w1 ⟨rfl, hb1⟩
    have HB1 := Lib.hid (HB.out.trans (hb1.mono (by simp))); clear hb1
    go_wp2_with fail
    go_ret2
    exact ⟨0, rfl, HL.out, HB1.out⟩
  · rw [decide_eq_false hs] at HEM
    have hs' : s.1 < s.2 := by grind
    have hbes := fun W (hW : Below w.heap.size w W) => beside_any q m.floor L s m.f m.floor W (h.next hW) hrep hs' hl
    have HBE := Lib.hid hbes; clear hbes
    have hlast := fun lo hi (hb : Beside L s lo hi) => hrep.last hok hb
    have HLA := Lib.hid hlast; clear hlast
    have HPM := Lib.hid h
    have HB := Lib.hid hbm
    obtain ⟨g, hg⟩ : ∃ g, g = w.heap.size := ⟨_, rfl⟩
    have HG := Lib.hid hg; clear hg
    have hbox : Whole (w.alloc (.cells #[.string s.1, .string s.2] 24)) w.heap.size 24 [.string s.1, .string s.2] := Whole.fresh w _ [_, _]
    have HBOX := Lib.hid hbox
    have hzz : w.heap.size < (w.alloc (.cells #[.string s.1, .string s.2] 24)).heap.size := by simp
    have HZZ := Lib.hid hzz
    clear hbm h hrep hok hs hbox hzz hs'
    go_enter Try.func12, Try.ntmps12
    go_wp2_with fail
    refine (HEM.out _).mono ?_
    rintro e w1 ⟨rfl, hb1⟩
    have hB1 : Below w.heap.size w w1 := HB.out.trans (hb1.mono (by simp))
    have hbx1 : Whole w1 w.heap.size 24 [.string s.1, .string s.2] := HBOX.out.below hb1 HZZ.out
    have hK := hbx1.cell 0 _ rfl
    have hK' := hbx1.cell 1 _ rfl
    have HBX1 := Lib.hid hbx1
    have HB1 := Lib.hid hB1
    clear hb1 hB1 hbx1
    go_wp2_with fail
    refine (HBE.out _ HB1.out).mono ?_
    rintro e w2 ⟨lo, hi, rfl, hbs, hb2⟩
    have hB2 : Below w.heap.size w w2 := HB1.out.trans (hb2.mono HB1.out.size)
    have hbx2 : Whole w2 w.heap.size 24 [.string s.1, .string s.2] := HBX1.out.below hb2 HBX1.out.size
    have hfin := HLA.out lo hi hbs
    have hlh := hbs.le
    have hhl := hbs.len
    obtain ⟨A, cap, hw, hr, hform⟩ := HPM.out.next hB2
    have hlc : L.length ≤ cap := by obtain ⟨A', c', e, hc, _⟩ := hr.at; injection e with _ _ e3; rw [e3]; exact hc
    have c1 := hw.cell 1 _ rfl
    have HBX2 := Lib.hid hbx2
    have HB2 := Lib.hid hB2
    have hB0 : (lo : Int) ≤ (hi : Int) := by omega
    have hB3 : (hi : Int) ≤ (cap : Int) := by omega
    clear hb2 hB2 hbx2 hw HBX1 HB1 hbs hK hK' HBE HLA HPM
    by_cases hlo : lo = hi
    · -- nothing is beside
      have hM : (L.take hi).drop lo = [] := List.drop_eq_nil_of_le (by rw [List.length_take]; omega)
      rw [hM] at hfin
      have HF := Lib.hid (show LastIs m s 0 from hfin); clear hfin hM
      subst hlo
      have fin : ∀ wr, Below w2.heap.size w2 wr → Below w.heap.size w wr := fun wr h => HB2.out.trans (h.mono HB2.out.size)
      have FIN := Lib.hid fin; clear fin hr
      have hsub : lo - lo = 0 := by omega
      rcases hform with ⟨rfl, rfl, hL0⟩ | ⟨gb, rfl⟩
      · obtain rfl : lo = 0 := by omega
        go_wp2_with fail
        go_loopw [6, 31] (fun nv iv wr => nv = .int .i64 0 ∧ iv = .int .i64 0 ∧ Below w2.heap.size w2 wr) (fun _ _ _ => 0)
        case atStart => exact ⟨rfl, rfl, Below.refl _ _⟩
        case round =>
          obtain ⟨rfl, rfl, hbw⟩ := hrel
          have HBW := Lib.hid hbw; clear hbw c1
          go_wp2_with fail
          go_ret2
          exact ⟨0, rfl, HF.out, FIN.out _ HBW.out⟩
      · by_cases hcl : cap = lo
        · subst hcl
          go_wp2_with fail
          go_loopw [6, 31] (fun nv iv wr => nv = .int .i64 0 ∧ iv = .int .i64 0 ∧ Below w2.heap.size w2 wr) (fun _ _ _ => 0)
          case atStart => exact ⟨rfl, rfl, Below.refl _ _⟩
          case round =>
            obtain ⟨rfl, rfl, hbw⟩ := hrel
            have HBW := Lib.hid hbw; clear hbw c1
            go_wp2_with fail
            go_ret2
            exact ⟨0, rfl, HF.out, FIN.out _ HBW.out⟩
        · go_wp2_with fail
          go_loopw [6, 31] (fun nv iv wr => nv = .int .i64 0 ∧ iv = .int .i64 0 ∧ Below w2.heap.size w2 wr) (fun _ _ _ => 0)
          case atStart => exact ⟨rfl, rfl, Below.refl _ _⟩
          case round =>
            obtain ⟨rfl, rfl, hbw⟩ := hrel
            have HBW := Lib.hid hbw; clear hbw c1
            go_wp2_with fail
            go_ret2
            exact ⟨0, rfl, HF.out, FIN.out _ HBW.out⟩
    · have hA : ∃ gb, A = some ⟨gb, 0, none⟩ := by
        rcases hform with ⟨_, _, hL0⟩ | h
        · rw [hL0] at hhl; simp at hhl; omega
        · exact h
      obtain ⟨gb, rfl⟩ := hA
      have hcl : ¬ cap = lo := by omega
      obtain ⟨A', c', e, _, hcells⟩ := hr.at
      injection e with e1 _ _
      subst e1
      have hML : ((L.take hi).drop lo).length = hi - lo := by rw [List.length_drop, List.length_take]; omega
      have hce : ∀ i (_ : i < ((L.take hi).drop lo).length), gb < w2.heap.size ∧ w2.cell? ⟨gb, lo * 3 + i * 3, none⟩ = some (.string ((L.take hi).drop lo)[i].s.1) ∧ w2.cell? ⟨gb, lo * 3 + i * 3 + 1, none⟩ = some (.string ((L.take hi).drop lo)[i].s.2) ∧ w2.cell? ⟨gb, lo * 3 + i * 3 + 2, none⟩ = some (.int .i64 ((L.take hi).drop lo)[i].v) := fun i hi' => by
        obtain ⟨b, o, e2, hb, k0, k1, k2⟩ := hcells (lo + i) (by omega)
        injection e2 with e2
        injection e2 with e3 e4 _
        subst e3 e4
        have em : ((L.take hi).drop lo)[i] = L[lo + i] := by simp
        rw [em, show lo * 3 + i * 3 = 0 + (lo + i) * 3 by omega]
        exact ⟨hb, k0, k1, k2⟩
      generalize (L.take hi).drop lo = M at hfin hML hce
      have HCE := Lib.hid hce; clear hce hcells hr hform
      have HF := Lib.hid hfin; clear hfin
      have HML := Lib.hid hML; clear hML
      obtain ⟨N, hN⟩ : ∃ N, N = hi - lo := ⟨_, rfl⟩
      have HN := Lib.hid hN
      have hNb : N ≤ 1000000 := by omega
      go_wp2_with fail
      rw [← hN]
      clear hN
      go_loopw [6, 31] (fun nv iv wr => ∃ (i : Nat) (zz : Int), i ≤ N ∧ iv = .int .i64 i ∧ nv = .int .i64 zz ∧ Hid (zz = lastL s 0 (M.take i)) ∧ Hid (Below w2.heap.size w2 wr)) (fun _ iv _ => N - (intOf iv).toNat)
      case atStart => exact ⟨0, 0, Nat.zero_le _, rfl, rfl, Lib.hid rfl, Lib.hid (Below.refl _ _)⟩
      case round =>
        obtain ⟨i, zz, hil, rfl, rfl, HZ, HBW⟩ := hrel
        clear c1
        by_cases hlt : i < N
        · have hlt2 : i < M.length := by rw [HML.out, ← HN.out]; exact hlt
          obtain ⟨hgb, k0, k1, k2⟩ := HCE.out i hlt2
          rw [← HBW.out.cell (p := ⟨gb, _, none⟩) hgb] at k0
          rw [← HBW.out.cell (p := ⟨gb, _, none⟩) hgb] at k1
          rw [← HBW.out.cell (p := ⟨gb, _, none⟩) hgb] at k2
          have hbxr : Whole wr w.heap.size 24 [.string s.1, .string s.2] := HBX2.out.below HBW.out HBX2.out.size
          have hst := lastL_take (s := s) (n := 0) hlt2
          have hmt := fun W => meet_any s M[i].s W
          have hme := meet_empty s M[i].s
          unfold spv at hmt
          generalize M[i] = x at k0 k1 k2 hst hmt hme
          obtain ⟨⟨x1, x2⟩, xv⟩ := x
          simp only at k0 k1 k2 hst hmt hme
          have hem2 := fun W => empty_any (meet s (x1, x2)) W
          rw [hme] at hem2
          generalize meet s (x1, x2) = mt at hmt hem2
          obtain ⟨mt1, mt2⟩ := mt
          simp only at hmt hem2
          have HMT := Lib.hid hmt; clear hmt hme
          obtain ⟨w3, hw3⟩ : ∃ w3, wr.alloc (.cells #[.string x1, .string x2, .int .i64 xv] 60) = w3 := ⟨_, rfl⟩
          have hb3 : Below wr.heap.size wr w3 := by rw [← hw3]; exact (Below.refl _ _).alloc (Nat.le_refl _) _
          have hx3 : Whole w3 wr.heap.size 60 [.string x1, .string x2, .int .i64 xv] := by rw [← hw3]; exact Whole.fresh wr _ [_, _, _]
          have hbx3 : Whole w3 w.heap.size 24 [.string s.1, .string s.2] := hbxr.below hb3 hbxr.size
          have b0 := hbx3.cell 0 _ rfl
          have b1 := hbx3.cell 1 _ rfl
          have y0 := hx3.cell 0 _ rfl
          have y1 := hx3.cell 1 _ rfl
          have y2 := hx3.cell 2 _ rfl
          have HX3 := Lib.hid hx3
          have HB3 := Lib.hid hb3
          clear hb3 hx3 hbx3 hbxr
          by_cases hmm : mx s.1 x1 < mn s.2 x2
          · rw [if_pos hmm, ← HZ.out] at hst
            have hst2 : max zz xv = lastL s 0 (M.take (i + 1)) := by rw [hst]; unfold imax; split <;> omega
            have HST := Lib.hid hst2; clear hst hst2
            rw [decide_eq_true hmm] at hem2
            have HE2 := Lib.hid hem2; clear hem2 hmm
            go_wp2_with fail
            have HW3 := Lib.hid hw3; clear hw3
            refine (HMT.out _).mono ?_
            rintro e w4 ⟨rfl, hb4⟩
            clear b0 b1 y0 y1 y2
            go_wp2_with fail
            refine (HE2.out _).mono ?_
            rintro e w5 ⟨rfl, hb5⟩
            have hb45 : Below w3.heap.size w3 w5 := hb4.trans (hb5.mono hb4.size)
            have x5 := (HX3.out.below hb45 HX3.out.size).cell 2 _ rfl
            have HB5 := Lib.hid (show Below w2.heap.size w2 w5 from HBW.out.trans ((HB3.out.trans (hb45.mono HB3.out.size)).mono HBW.out.size))
            clear hb4 hb5 hb45 k0 k1 k2
            go_wp2_with fail
            go_roundw
            case rel => exact ⟨i + 1, _, by omega, by go_num, rfl, Lib.hid HST.out, HB5⟩
            case measure => simp [intOf]; omega
          · rw [if_neg hmm, ← HZ.out] at hst
            have HST := Lib.hid hst; clear hst
            rw [decide_eq_false hmm] at hem2
            have HE2 := Lib.hid hem2; clear hem2 hmm
            go_wp2_with fail
            have HW3 := Lib.hid hw3; clear hw3
            refine (HMT.out _).mono ?_
            rintro e w4 ⟨rfl, hb4⟩
            clear b0 b1 y0 y1 y2
            go_wp2_with fail
            refine (HE2.out _).mono ?_
            rintro e w5 ⟨rfl, hb5⟩
            have hb45 : Below w3.heap.size w3 w5 := hb4.trans (hb5.mono hb4.size)
            have HB5 := Lib.hid (show Below w2.heap.size w2 w5 from HBW.out.trans ((HB3.out.trans (hb45.mono HB3.out.size)).mono HBW.out.size))
            clear hb4 hb5 hb45 k0 k1 k2
            go_wp2_with fail
            go_roundw
            case rel => exact ⟨i + 1, zz, by omega, by go_num, rfl, Lib.hid HST.out.symm, HB5⟩
            case measure => simp [intOf]; omega
        · have hz2 : LastIs m s zz := by
            have h1 := HF.out
            have h2 := HZ.out
            rw [List.take_of_length_le (by rw [HML.out, ← HN.out]; omega)] at h2
            rw [h2]
            exact h1
          have HZ2 := Lib.hid hz2; clear hz2
          have HB5 := Lib.hid (show Below w.heap.size w wr from HB2.out.trans (HBW.out.mono HB2.out.size))
          go_wp2_with fail
          go_ret2
          exact ⟨zz, rfl, HZ2.out, HB5.out⟩

theorem mklast_any (base q n : Nat) (G : Nat → Prop) (m : Mk) (s : K × K) (w : World) (h : MkAt w base q G n m) :
    Calls Try.prog 12 #[.pointer (some ⟨q, 0, none⟩), .agg #[.string s.1, .string s.2]] w fun e w' => ∃ k, e = .returned (.tuple #[.int .i64 k, .bool (decide (0 < k))]) ∧ LastIs m s k ∧ Below w.heap.size w w' := by
  obtain ⟨ov, L, h1, rfl, h2, h3, h4, h5, h6⟩ := h
  exact plast_any q m L s w h1.rd h2 h5 (by omega)

set_option maxHeartbeats 8000000 in
set_option maxRecDepth 100000 in
theorem mkforget_any (base q n : Nat) (G : Nat → Prop) (m : Mk) (v : Int) (hv : I64 v) (w : World) (h : MkAt w base q G n m) :
    Calls Try.prog 13 #[.pointer (some ⟨q, 0, none⟩), .int .i64 v] w fun e w' => e = .returned (.int .i64 (ferr m v)) ∧ ∃ G', MkAt w' base q G' n (fnext m v) ∧ (∀ i, G' i → G i ∨ w.heap.size ≤ i) ∧ Mv G w w' := by
  have hmk := h
  obtain ⟨ov, L, h1, rfl, h2, h3, h4, h5, h6⟩ := h
  obtain ⟨W1, hW1⟩ : ∃ W1, w.alloc (.cells #[.int .i64 v] 3) = W1 := ⟨_, rfl⟩
  have hB1 : Below w.heap.size w W1 := by rw [← hW1]; exact (Below.refl _ w).alloc (Nat.le_refl _) _
  have hbx : Whole W1 w.heap.size 3 [.int .i64 v] := by rw [← hW1]; exact Whole.fresh w _ [_]
  have hp1 := h1.new hB1
  obtain ⟨A, cap, hw, hown, hov⟩ := hp1.blk
  have hcel : ∀ X, Below W1.heap.size W1 X → X.cell? ⟨q, 0, none⟩ = some (.int .i64 m.floor) ∧ X.cell? ⟨q, 1, none⟩ = some (.slice A L.length cap) ∧ X.cell? ⟨w.heap.size, 0, none⟩ = some (.int .i64 v) := fun X hX =>
    ⟨(hw.below hX hw.size).cell 0 _ rfl, (hw.below hX hw.size).cell 1 _ rfl, (hbx.below hX hbx.size).cell 0 _ rfl⟩
  have HCE := Lib.hid hcel; clear hcel
  have hd1 : Below W1.heap.size W1 W1.drew := (Below.refl _ _).drew
  have hne : (Value.slice A L.length cap).ownBlock ≠ some w.heap.size := fun e => Own.apart hown hbx (by decide) e.symm
  have hdel := deleteFunc_any v w.heap.size base L (.slice A L.length cap) W1.drew hbx.size hne ((hbx.drew).cell 0 _ rfl) hown.drew hp1.low.2 (by omega)
  have hbw : Below w.heap.size w W1.drew := hB1.drew
  have HDEL := Lib.hid hdel; clear hdel
  have HB := Lib.hid hbw; clear hbw
  have HP := Lib.hid h1
  have HOV := Lib.hid hov
  by_cases hlt : v < m.floor
  · have he : ferr m v = 7 ∧ fnext m v = m := ⟨if_pos hlt, if_pos hlt⟩
    rw [he.1, he.2]
    have HM := Lib.hid hmk
    clear he hmk h1 h2 h3 h4 h5 hp1 hw hown hov hbx hne HDEL
    go_enter Try.func13, Try.ntmps13
    go_wp2_with fail
    refine wp_region_planB [(true, 0), (true, 1), (true, 2), (true, 3), (true, 4), (true, 5), (true, 6)] (by kernel_rfl) (by kernel_rfl) (fun _ _ d _ _ h => by cases d <;> exact h) ?_
    repeat (refine PlanB.take (v := ?_) rfl rfl ?_ ?_; rotate_left; (focus (intro X hX; obtain ⟨k0, k1, k2⟩ := HCE.out X (hd1.trans hX); go_simp; (try with_reducible rfl); done)); (try simp only [Act.put, List.setIfInBounds_toArray, List.set_cons_zero, List.set_cons_succ]))
    simp only [PlanB]
    go_wp2_with fail
    go_ret
    exact ⟨rfl, PmD q ov, HM.out.mv (Mv.of_new HB.out (fun i => w.heap.size ≤ i)) (fun i hi => by have := (HM.out.low).2 i hi; omega), fun i hi => .inl hi, Mv.of_new HB.out _⟩
  · have he : ferr m v = 0 ∧ fnext m v = { m with floor := v } := ⟨if_neg hlt, if_neg hlt⟩
    rw [he.1, he.2]
    have hok2 : ({ m with floor := v } : Mk).Ok := by have := h5.forget hv.2; rwa [he.2] at this
    have hrep2 : Rep m.f v (L.filter fun x => keepB v x) := h2.forget (by omega)
    have htop2 : Top { m with floor := v } := by
      rcases h3 with h | h
      · exact .inl (by simp only; omega)
      · exact .inr h
    have hlen2 : (L.filter fun x => keepB v x).length ≤ 48 * n := Nat.le_trans (List.length_filter_le _ _) h4
    have HOK := Lib.hid hok2; clear hok2
    have HRE := Lib.hid hrep2; clear hrep2
    have HTO := Lib.hid htop2; clear htop2
    have HLE := Lib.hid hlen2; clear hlen2
    clear he hmk h1 h2 h3 h4 h5 hp1 hw hown hov hbx hne
    go_enter Try.func13, Try.ntmps13
    go_wp2_with fail
    refine wp_region_planB [(true, 0), (true, 1), (true, 2), (true, 3), (true, 4), (true, 5), (true, 6)] (by kernel_rfl) (by kernel_rfl) (fun _ _ d _ _ h => by cases d <;> exact h) ?_
    repeat (refine PlanB.take (v := ?_) rfl rfl ?_ ?_; rotate_left; (focus (intro X hX; obtain ⟨k0, k1, k2⟩ := HCE.out X (hd1.trans hX); go_simp; (try with_reducible rfl); done)); (try simp only [Act.put, List.setIfInBounds_toArray, List.set_cons_zero, List.set_cons_succ]))
    simp only [PlanB]
    obtain ⟨k0, k1, k2⟩ := HCE.out W1.drew hd1
    clear hd1
    go_wp2_with fail
    refine HDEL.out.mono ?_
    rintro e w2 ⟨A2, c2, rfl, ho2, hg2, hrow2⟩
    rw [HOV.out] at hg2 hrow2
    obtain ⟨s1, ⟨u, s2⟩, s3, s4⟩ := HP.out.store HB.out hg2 rfl ho2 (fun g hg => .inl (by rw [← hrow2]; exact hg))
    obtain ⟨t1, ⟨u2, t2⟩, t3⟩ := s1.floor v
    have hbx2 : w2.cell? ⟨w.heap.size, 0, none⟩ = some (.int .i64 v) := (grown_cell hg2 (p := ⟨w.heap.size, 0, none⟩) (World.block_lt_of_cell? _ _ k2) (fun e => by have := (HP.out.row e).2; simp only at this; omega)).trans k2
    have hqs := HP.out.size
    have hbx3 : (w2.setCell ⟨q, 1, none⟩ (.slice A2 (L.filter fun x => keepB v x).length c2)).cell? ⟨w.heap.size, 0, none⟩ = some (.int .i64 v) := (World.cell?_setCell_other _ ⟨q, 1, none⟩ ⟨w.heap.size, 0, none⟩ _ (by intro e; injection e with e; omega)).trans hbx2
    have HT := Lib.hid t1
    rw [hrow2] at HT
    clear k0 k1 k2 s1 s4 t1 hg2 ho2 hrow2 hbx2 hqs
    go_wp2_with fail
    go_ret
    exact ⟨rfl, PmD q ov, ⟨ov, _, HT.out.now, rfl, HRE.out, HTO.out, HLE.out, HOK.out, h6⟩, fun i hi => .inl hi, HT.out.moved⟩
end Go.Proofs.Ytcmpbhcldaogiaa
