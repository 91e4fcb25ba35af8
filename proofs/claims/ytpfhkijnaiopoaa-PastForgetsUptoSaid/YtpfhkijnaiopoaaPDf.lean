/- slices.DeleteFunc over pairs, with the closure of List. -/
import Derived.Test.YtpfhkijnaiopoaaPDd
namespace Go.Proofs.Ytpfhkijnaiopoaa
open Go.RowKit
attribute [local go_sem] less_eq same_eq le_eq ge_eq gt_eq

set_option maxHeartbeats 1000000 in
set_option maxRecDepth 100000 in
theorem listcl_any (s x : K × K) (B : Nat) (w : World) (h0 : w.cell? ⟨B, 0, none⟩ = some (.string s.1)) (h1 : w.cell? ⟨B, 1, none⟩ = some (.string s.2)) :
    Calls Try.prog 42 #[.agg #[.string x.1, .string x.2], .pointer (some ⟨B, 0, none⟩)] w fun e w' => e = .returned (.bool (!hasB s x.1)) ∧ Below w.heap.size w w' := by
  have hcon := fun W => phas_any s x.1 W
  generalize hasB s x.1 = r at hcon ⊢
  have HC := Lib.hid hcon; clear hcon
  have h0' := (World.cell?_alloc_some w ⟨B, 0, none⟩ (.cells #[.string x.1, .string x.2] 56) (by rw [h0]; rfl)).trans h0
  have h1' := (World.cell?_alloc_some w ⟨B, 1, none⟩ (.cells #[.string x.1, .string x.2] 56) (by rw [h1]; rfl)).trans h1
  clear h0 h1
  go_enter Try.func42, Try.ntmps42
  go_wp2_with fail
  refine (HC.out _).mono ?_
  rintro e w2 ⟨rfl, hb2⟩
  have HB2 := Lib.hid (((Below.refl _ w).alloc (Nat.le_refl _) (.cells #[.string x.1, .string x.2] 56)).trans (hb2.mono (by simp)))
  clear hb2 h0' h1'
  go_wp2_with fail
  go_ret
  exact ⟨rfl, HB2.out⟩

set_option maxHeartbeats 4000000 in
set_option maxRecDepth 100000 in
theorem index_any (s : K × K) (B : Nat) (l : List (K × K)) (v : Value) (w : World) (hB : B < w.heap.size) (h0 : w.cell? ⟨B, 0, none⟩ = some (.string s.1)) (h1 : w.cell? ⟨B, 1, none⟩ = some (.string s.2)) (hv : RdP w w.heap.size v l) (hl : l.length < 4611686018427387904) :
    Calls Try.prog 54 #[v, .func (.func 42) #[] #[.pointer (some ⟨B, 0, none⟩)]] w fun e w' =>
      ((e = .returned (.int .i64 (-1)) ∧ ∀ t (_ : t < l.length), hasB s l[t].1 = true) ∨ (∃ i, ∃ hi : i < l.length, e = .returned (.int .i64 (i : Nat)) ∧ hasB s l[i].1 = false ∧ ∀ t (_ : t < l.length), t < i → hasB s l[t].1 = true)) ∧ Below w.heap.size w w' := by
  obtain ⟨A, c, rfl, hc, hi⟩ := hv.at
  have HI := Lib.hid hi; clear hi
  clear hv
  obtain ⟨g, hg⟩ : ∃ g, g = w.heap.size := ⟨_, rfl⟩
  have HG := Lib.hid hg
  have hbg : B < g := by omega
  clear hg
  have hcl := fun (x : K × K) W (hW : Below g w W) => listcl_any s x B W ((hW.cell (p := ⟨B, 0, none⟩) hbg).trans h0) ((hW.cell (p := ⟨B, 1, none⟩) hbg).trans h1)
  have HCL := Lib.hid hcl; clear hcl h0 h1
  go_enter Try.func54, Try.ntmps54
  go_wp2_with fail
  go_loopw [8] (fun iv wr => ∃ i : Nat, i ≤ l.length ∧ iv = .int .i64 i ∧ Hid (Below g w wr) ∧ Hid (∀ t (_ : t < l.length), t < i → hasB s l[t].1 = true)) (fun iv _ => l.length - (intOf iv).toNat)
  case atStart => exact ⟨0, Nat.zero_le _, rfl, Lib.hid (Below.refl _ _), Lib.hid (fun t _ h => absurd h (Nat.not_lt_zero _))⟩
  case round =>
    obtain ⟨i, hil, rfl, HBW, HP⟩ := hrel
    by_cases hlt : i < l.length
    · obtain ⟨b, o, rfl, hbB, k0, k1⟩ := HI.out i hlt
      rw [← HBW.out.cell (p := ⟨b, _, none⟩) (by rw [HG.out]; exact hbB)] at k0
      rw [← HBW.out.cell (p := ⟨b, _, none⟩) (by rw [HG.out]; exact hbB)] at k1
      have hcc := HCL.out l[i] wr HBW.out
      cases hx : hasB s l[i].1 with
      | true =>
        rw [hx] at hcc
        have hp : ∀ t (_ : t < l.length), t < i + 1 → hasB s l[t].1 = true := fun t ht h => by
          rcases Nat.lt_or_ge t i with h2 | h2
          · exact HP.out t ht h2
          · have e : t = i := by omega
            subst e; exact hx
        have HP2 := Lib.hid hp; clear hp hx
        generalize l[i] = z at k0 k1 hcc
        obtain ⟨zx, zy⟩ := z
        simp only [Bool.not_true] at k0 k1 hcc
        have HCC := Lib.hid hcc; clear hcc
        go_wp2_with fail
        refine HCC.out.mono ?_
        rintro e w2 ⟨rfl, hb2⟩
        have HB2 := Lib.hid (HBW.out.trans (hb2.mono (by rw [HG.out]; exact HBW.out.size)))
        clear hb2 k0 k1
        go_wp2_with fail
        go_roundw
        case rel => exact ⟨i + 1, by omega, by go_num, HB2, HP2⟩
        case measure => simp [intOf]; omega
      | false =>
        rw [hx] at hcc
        have HX := Lib.hid hx; clear hx
        have HPP := Lib.hid (show hasB s l[i].1 = false from HX.out)
        generalize l[i] = z at k0 k1 hcc
        obtain ⟨zx, zy⟩ := z
        simp only [Bool.not_false] at k0 k1 hcc
        have HCC := Lib.hid hcc; clear hcc
        go_wp2_with fail
        refine HCC.out.mono ?_
        rintro e w2 ⟨rfl, hb2⟩
        have HB2 := Lib.hid (HBW.out.trans (hb2.mono (by rw [HG.out]; exact HBW.out.size)))
        clear hb2 k0 k1
        go_wp2_with fail
        go_ret
        exact ⟨.inr ⟨i, hlt, rfl, HX.out, HP.out⟩, by have h := HB2.out; rwa [HG.out] at h⟩
    · obtain rfl : i = l.length := by omega
      go_wp2_with fail
      go_ret
      exact ⟨.inl ⟨rfl, fun t ht => HP.out t ht ht⟩, by have h := HBW.out; rwa [HG.out] at h⟩

theorem flatG_set {α : Type} {enc : α → List Value} {k : Nat} (hk : ∀ x, (enc x).length = k) : ∀ (l : List α) (i j : Nat) (u : Value) (x' : α) (hi : i < l.length) (_ : j < k) (_ : (enc l[i]).set j u = enc x'), (flatG enc l).set (i * k + j) u = flatG enc (l.set i x')
  | x :: r, 0, j, u, x', _, hj, hx => by
    simp only [List.getElem_cons_zero] at hx
    simp only [Nat.zero_mul, Nat.zero_add, List.set_cons_zero]
    rw [show flatG enc (x :: r) = enc x ++ flatG enc r by simp [flatG], show flatG enc (x' :: r) = enc x' ++ flatG enc r by simp [flatG], List.set_append_left _ _ (by rw [hk]; exact hj), hx]
  | x :: r, i + 1, j, u, x', hi, hj, hx => by
    have ih := flatG_set hk r i j u x' (by simpa using hi) hj (by simpa using hx)
    simp only [List.set_cons_succ]
    rw [show flatG enc (x :: r) = enc x ++ flatG enc r by simp [flatG], show flatG enc (x :: r.set i x') = enc x ++ flatG enc (r.set i x') by simp [flatG], ← ih, List.set_append_right _ _ (by rw [hk, Nat.add_mul]; omega)]
    congr 2
    rw [hk, Nat.add_mul]; omega
set_option maxRecDepth 100000 in
theorem Own.setAt {α : Type} {enc : α → List Value} {k : Nat} {e : TypeId} {w : World} {base g m c : Nat} {l : List α} (hk : ∀ x, (enc x).length = k) (h : Own enc k e w base (.slice (some ⟨g, 0, none⟩) m c) l) (i j : Nat) (u : Value) (x' : α) (hi : i < l.length) (hj : j < k) (hx : (enc l[i]).set j u = enc x') :
    Own enc k e (w.setCell ⟨g, i * k + j, none⟩ u) base (.slice (some ⟨g, 0, none⟩) m c) (l.set i x') := by
  refine ⟨by rw [flatG_length hk], ?_⟩
  rcases h.2 with ⟨h2, _⟩ | ⟨g2, cap, cur, hv, hb, hh, h1, h2, h3, h4⟩
  · cases h2
  · injection hv with e1 e2 e3
    injection e1 with e1
    injection e1 with e1
    subst e1 e2 e3
    refine .inr ⟨g, c, cur.set! (i * k + j) u, by simp, hb, ?_, by simpa using h1, h2, by simpa using h3, ?_⟩
    · simp [World.setCell, Array.getElem?_modify, hh]
    · rw [List.length_set, ← flatG_set hk l i j u x' hi hj hx, ← h4]
      simp [List.take_set]
theorem Own.stand {α : Type} {enc : α → List Value} {k : Nat} {e : TypeId} {w : World} {base g m c : Nat} {l : List α} (h : Own enc k e w base (.slice (some ⟨g, 0, none⟩) m c) l) (o : Nat) : w.frozen? ⟨g, o, none⟩ = false := by
  rcases h.2 with ⟨h2, _⟩ | ⟨g2, cap, cur, hv, hb, hh, h1, h2, h3, h4⟩
  · cases h2
  · injection hv with e1 e2 e3
    injection e1 with e1
    injection e1 with e1
    subst e1
    simp [World.frozen?, hh]

theorem filter_take_succ {α : Type} (p : α → Bool) (l : List α) (j : Nat) (h : j < l.length) : (l.take (j + 1)).filter p = (l.take j).filter p ++ (if p l[j] = true then [l[j]] else []) := by
  rw [List.take_succ_eq_append_getElem h, List.filter_append]
  congr 1
  by_cases hp : p l[j] = true
  · simp [hp]
  · simp [hp]

set_option maxHeartbeats 8000000 in
set_option maxRecDepth 100000 in
theorem deleteFunc_any (s : K × K) (B base : Nat) (l : List (K × K)) (v : Value) (w : World) (hB : B < base) (h0 : w.cell? ⟨B, 0, none⟩ = some (.string s.1)) (h1 : w.cell? ⟨B, 1, none⟩ = some (.string s.2)) (ho : OwnP w base v l) (hbs : base ≤ w.heap.size) (hl : l.length < 4611686018427387904) :
    Calls Try.prog 40 #[v, .func (.func 42) #[] #[.pointer (some ⟨B, 0, none⟩)]] w fun e w' =>
      ∃ A c, e = .returned (.slice A (l.filter fun x => hasB s x.1).length c) ∧ OwnP w' base (.slice A (l.filter fun x => hasB s x.1).length c) (l.filter fun x => hasB s x.1) ∧ Below base w w' := by
  have hix := index_any s B l v w (by omega) h0 h1 (ho.rd cellsS_len) hl
  have hcl := fun (x : K × K) W (hW : Below base w W) => listcl_any s x B W ((hW.cell (p := ⟨B, 0, none⟩) hB).trans h0) ((hW.cell (p := ⟨B, 1, none⟩) hB).trans h1)
  have HCL := Lib.hid hcl; clear hcl h0 h1
  have HIX := Lib.hid hix; clear hix
  have HO := Lib.hid ho
  obtain ⟨A, c, rfl, hlc⟩ : ∃ A c, v = .slice A l.length c ∧ l.length ≤ c := by
    obtain ⟨A, c, e1, e2, _⟩ := ho.rd cellsS_len
    exact ⟨A, c, e1, e2⟩
  have hrow := ho.row
  clear ho
  go_enter Try.func40, Try.ntmps40
  go_wp2_with fail
  refine HIX.out.mono ?_
  rintro e w1 ⟨⟨rfl, hall⟩ | ⟨i, hi, rfl, hxi, hlo⟩, hb1⟩
  · have hfl : (l.filter fun x => hasB s x.1) = l := List.filter_eq_self.2 fun x hx => by
      obtain ⟨t, ht, rfl⟩ := List.getElem_of_mem hx
      exact hall t ht
    have HFL := Lib.hid hfl; clear hfl hall
    have HO1 := Lib.hid (HO.out.below hb1 (Nat.le_refl _))
    have HB1 := Lib.hid (hb1.mono hbs); clear hb1
    go_wp2_with fail
    go_ret
    rw [HFL.out]
    exact ⟨A, c, rfl, HO1.out, HB1.out⟩
  · obtain ⟨g, cap, cur, hv, hbg, hg, hcc, hcm, hcl, hct⟩ := hrow.resolve_left (fun h => by rw [h.2] at hi; simp at hi)
    injection hv with e1 _ e3
    subst e1 e3
    have hft : (l.take (i + 1)).filter (fun x => hasB s x.1) = l.take i := by
      rw [filter_take_succ _ l i hi, hxi]
      simp only [Bool.false_eq_true, if_false, List.append_nil]
      exact List.filter_eq_self.2 fun x hx => by
        rw [List.mem_take_iff_getElem] at hx
        obtain ⟨t, ht, rfl⟩ := hx
        exact hlo t (by omega) (by omega)
    have HO1 := Lib.hid (HO.out.below hb1 (Nat.le_refl _))
    have HB1 := Lib.hid (hb1.mono hbs)
    have hi1 : (i : Int) + 1 ≤ (l.length : Int) := by omega
    have hw1 : IntKind.i64.wrap ((i : Int) + 1) = ((i + 1 : Nat) : Int) := by rw [wrap_small _ (by omega) (by omega)]; omega
    have hine : ((i : Int) == -1) = false := by simp
    have HFT := Lib.hid hft; clear hft
    clear hb1 hxi hlo hg hcl hct cur HIX HO hrow hcc
    go_wp2_with fail
    go_loopw [5, 6] (fun iv jv wr => ∃ (a j : Nat) (R : List (K × K)), a < j ∧ j ≤ l.length ∧ iv = .int .i64 a ∧ jv = .int .i64 j ∧ Hid (R.length = l.length) ∧ Hid (OwnP wr base (.slice (some ⟨g, 0, none⟩) l.length c) R) ∧ Hid (R.take a = (l.take j).filter (fun x => hasB s x.1)) ∧ Hid (∀ t (_ : t < l.length), j ≤ t → R[t]? = l[t]?) ∧ Hid (Below base w wr)) (fun _ jv _ => l.length - (intOf jv).toNat)
    case atStart => exact ⟨i, i + 1, l, by omega, by omega, rfl, by go_num, Lib.hid rfl, HO1, Lib.hid HFT.out.symm, Lib.hid (fun _ _ _ => rfl), HB1⟩
    case round =>
      obtain ⟨a, j, R, haj, hjl, rfl, rfl, HRL, HR, HT, HD, HB⟩ := hrel
      have hRl := HRL.out
      have hbw : base ≤ wr.heap.size := Nat.le_trans hbs HB.out.size
      clear hw1 hine hi1 HFT HO1 HB1
      by_cases hlt : j < l.length
      · have hRj : R[j]? = some l[j] := by rw [HD.out j hlt (Nat.le_refl _), List.getElem?_eq_getElem hlt]
        obtain ⟨hj2, hj3⟩ := List.getElem?_eq_some_iff.1 hRj
        obtain ⟨A2, c2, ev, _, hcells⟩ := RdP.at (HR.out.rd cellsS_len)
        obtain ⟨b2, o2, eA, _, k0, k1⟩ := hcells j hj2
        injection ev with ev1 ev2 ev3
        rw [← ev1] at eA
        injection eA with eA
        injection eA with eb eo ep
        subst eb eo
        clear ev1 ev2 ev3 ep
        rw [hj3] at k0 k1
        clear hcells hRj
        simp only [Nat.zero_add] at k0 k1
        have hcc := HCL.out l[j] (wr.alloc (.cells #[.string l[j].1, .string l[j].2] 56)) (HB.out.alloc hbw _)
        have hfs := filter_take_succ (fun x : K × K => hasB s x.1) l j hlt
        have hng : wr.heap.size ≠ g := by have := (HR.out.low (i := g) rfl).2; omega
        have hD2 : ∀ t (_ : t < l.length), j + 1 ≤ t → R[t]? = l[t]? := fun t ht h => HD.out t ht (by omega)
        cases hx : hasB s l[j].1 with
        | true =>
          rw [hx] at hcc hfs
          have hset : ∀ W, OwnP W base (.slice (some ⟨g, 0, none⟩) l.length c) R → OwnP ((W.setCell ⟨g, a * 2, none⟩ (.string l[j].1)).setCell ⟨g, a * 2 + 1, none⟩ (.string l[j].2)) base (.slice (some ⟨g, 0, none⟩) l.length c) (R.set a l[j]) := fun W hW => by
            have ha : a < R.length := by omega
            have h1 := hW.setAt cellsS_len a 0 (.string l[j].1) (l[j].1, (R[a]'ha).2) ha (by omega) rfl
            have h2 := h1.setAt cellsS_len a 1 (.string l[j].2) l[j] (by simpa using ha) (by omega) (by rw [List.getElem_set_self]; rfl)
            rw [List.set_set] at h2
            exact h2
          have hcell2 : ∀ W, OwnP W base (.slice (some ⟨g, 0, none⟩) l.length c) R → (∃ u, W.cell? ⟨g, a * 2, none⟩ = some u) ∧ (∃ u, (W.setCell ⟨g, a * 2, none⟩ (.string l[j].1)).cell? ⟨g, a * 2 + 1, none⟩ = some u) := fun W hW => by
            have ha : a < R.length := by omega
            obtain ⟨A3, c3, ev3, _, hc3⟩ := RdP.at (hW.rd cellsS_len)
            obtain ⟨b3, o3, eA3, _, m0, m1⟩ := hc3 a ha
            injection ev3 with ev31 ev32 ev33
            rw [← ev31] at eA3
            injection eA3 with eA3
            injection eA3 with eb3 eo3 _
            subst eb3 eo3
            simp only [Nat.zero_add] at m0 m1
            exact ⟨⟨_, m0⟩, ⟨_, (World.cell?_setCell_other W ⟨g, a * 2, none⟩ ⟨g, a * 2 + 1, none⟩ _ (by simp)).trans m1⟩⟩
          have hT2 : (R.set a l[j]).take (a + 1) = (l.take (j + 1)).filter (fun x => hasB s x.1) := by
            rw [hfs, ← HT.out, List.take_add_one, List.getElem?_set_self (by omega), List.take_set_of_le (Nat.le_refl _)]
            simp
          have hD3 : ∀ t (_ : t < l.length), j + 1 ≤ t → (R.set a l[j])[t]? = l[t]? := fun t ht h => by rw [List.getElem?_set_ne (by omega)]; exact hD2 t ht h
          have hRl2 : (R.set a l[j]).length = l.length := by rw [List.length_set]; exact hRl
          generalize R.set a l[j] = R2 at hset hT2 hD3 hRl2
          have HRL2 := Lib.hid hRl2; clear hRl2 hRl
          clear hx hfs hj3 hj2 hD2
          generalize l[j] = z at k0 k1 hcc hset hcell2
          obtain ⟨zx, zy⟩ := z
          simp only [Bool.not_true] at k0 k1 hcc hset hcell2
          have HCC := Lib.hid hcc; clear hcc
          have HSET := Lib.hid hset; clear hset
          have HC2 := Lib.hid hcell2; clear hcell2
          have HT2 := Lib.hid hT2; clear hT2
          have HD3 := Lib.hid hD3; clear hD3
          have hj5 : (j : Int) < (l.length : Int) := by omega
          go_wp2_with fail
          refine HCC.out.mono ?_
          rintro e w2 ⟨rfl, hb2⟩
          have hR2 : OwnP w2 base (.slice (some ⟨g, 0, none⟩) l.length c) R := (HR.out.alloc _).below hb2 (Nat.le_refl _)
          have hv2 : Whole w2 wr.heap.size 56 [.string zx, .string zy] := (Whole.fresh wr 56 [.string zx, .string zy]).below hb2 (by simp)
          have hBw2 : Below base w w2 := (HB.out.alloc hbw _).trans (hb2.mono (by simp; omega))
          obtain ⟨⟨u0, m0⟩, ⟨u1, m1⟩⟩ := HC2.out w2 hR2
          have z0 := hR2.stand (a * 2)
          have z1 : (w2.setCell ⟨g, a * 2, none⟩ (.string zx)).frozen? ⟨g, a * 2 + 1, none⟩ = false := by rw [World.frozen?_setCell]; exact hR2.stand (a * 2 + 1)
          have n0 := hv2.cell 0 _ rfl
          have n1 := hv2.cell 1 _ rfl
          have HR3 := Lib.hid (HSET.out w2 hR2)
          have HB3 := Lib.hid ((hBw2.setCell (p := ⟨g, a * 2, none⟩) hbg (.string zx)).setCell (p := ⟨g, a * 2 + 1, none⟩) hbg (.string zy))
          have ha5 : (a : Int) < (l.length : Int) := by omega
          clear hb2 hR2 hv2 hBw2 k0 k1 hng
          go_wp2_with fail
          go_roundw
          case rel => exact ⟨a + 1, j + 1, R2, by omega, by omega, by go_num, by go_num, HRL2, HR3, HT2, HD3, HB3⟩
          case measure => simp [intOf]; omega
        | false =>
          rw [hx] at hcc hfs
          simp only [Bool.false_eq_true, if_false, List.append_nil] at hfs
          have HT2 := Lib.hid (show R.take a = (l.take (j + 1)).filter (fun x => hasB s x.1) by rw [hfs]; exact HT.out)
          have HD3 := Lib.hid hD2; clear hD2 hfs hx hj3 hj2 hRl
          generalize l[j] = z at k0 k1 hcc
          obtain ⟨zx, zy⟩ := z
          simp only [Bool.not_false] at k0 k1 hcc
          have HCC := Lib.hid hcc; clear hcc
          have hj5 : (j : Int) < (l.length : Int) := by omega
          go_wp2_with fail
          refine HCC.out.mono ?_
          rintro e w2 ⟨rfl, hb2⟩
          have HR3 := Lib.hid (show OwnP w2 base (.slice (some ⟨g, 0, none⟩) l.length c) R from (HR.out.alloc _).below hb2 (Nat.le_refl _))
          have HB3 := Lib.hid (show Below base w w2 from (HB.out.alloc hbw _).trans (hb2.mono (by simp; omega)))
          clear hb2 k0 k1 hng
          go_wp2_with fail
          go_roundw
          case rel => exact ⟨a, j + 1, R, by omega, by omega, rfl, by go_num, HRL, HR3, HT2, HD3, HB3⟩
          case measure => simp [intOf]; omega
      · obtain rfl : j = l.length := by omega
        rw [List.take_length] at HT
        obtain ⟨g', cap', cur, ev, _, hg, _, hcm', hcl, hct⟩ := HR.out.row.resolve_left (fun h => by rw [h.2] at hRl; simp at hRl; omega)
        injection ev with ev1 ev2 ev3
        injection ev1 with ev1
        injection ev1 with ev1
        subst ev1 ev3
        clear ev2
        rw [hRl] at hct
        have HG := Lib.hid hg; clear hg
        have HCL2 := Lib.hid hcl; clear hcl
        have HCT := Lib.hid hct; clear hct
        have ha1 : (a : Int) ≤ (l.length : Int) := by omega
        have ha2 : (a : Int) ≤ (c : Int) := by omega
        have ha3 : ¬ c = a := by omega
        have hfl : (l.filter fun x => hasB s x.1).length = a := by rw [← HT.out, List.length_take]; omega
        have HFL := Lib.hid hfl; clear hfl
        unfold maxLen at hcm
        clear hRl
        go_wp2_with (with_reducible show wpList _ _ _ (⟨none, _, _, _, _, _⟩ :: _) _ _; go_must (refine wpList_clearP rfl _ rfl g (a * 2) cur _ _ _ rfl HG.out (fun _ => rfl) ?d1 ?_))
        case d1 => rw [HCL2.out]; omega
        intro w2 zs hz hm2
        have HZ := Lib.hid hz; clear hz
        go_wp2_with fail
        go_ret
        refine ⟨some ⟨g, 0, none⟩, c, by rw [HFL.out]; rfl, ?_, HB.out.grown hm2.out.grown hbw (fun k hk => by injection hk with hk; omega)⟩
        rw [HFL.out]
        have hown := Own.ofRow (e := 56) cellsS_len (l.filter fun x => hasB s x.1) hbg hm2.out.whole (cap := c) (by rw [HFL.out]; omega) (by unfold maxLen; omega) (by rw [length_splice _ _ _ (by rw [HZ.out, HCL2.out]; omega), HCL2.out]) (by
          rw [HFL.out, take_splice_lt cur _ _ _ (Nat.le_refl _) (by rw [HCL2.out]; omega), ← HT.out, flatG_take cellsS_len, ← HCT.out, List.take_take, Nat.min_eq_left (by omega)])
        rw [HFL.out] at hown
        exact hown
end Go.Proofs.Ytpfhkijnaiopoaa
