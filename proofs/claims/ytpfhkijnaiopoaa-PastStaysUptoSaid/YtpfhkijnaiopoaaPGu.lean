/- Get. -/
import Derived.Test.YtpfhkijnaiopoaaPGt
namespace Go.Proofs.Ytpfhkijnaiopoaa
open Go.RowKit Go.Shelf
attribute [local go_sem] Oper.semAt_some

theorem chgs_get (us : List Dd) (i : Nat) (h : i < us.length) (h2 : i < (chgs us).length) : (chgs us)[i] = us[i].2 := List.getElem_map ..
set_option maxHeartbeats 1000000 in
theorem pget_bad (q : Nat) (p : Pa) (bv dv : Value) (k : K) (v : Int) (w : World) (hb : Whole w q 65 [.int .i64 p.first, .int .i64 p.last, bv, dv]) (hk : p.known v ≠ 0) :
    Calls Try.prog 16 #[.pointer (some ⟨q, 0, none⟩), .string k, .int .i64 v] w fun e w' => e = .returned (.tuple #[.string ⟨#[]⟩, .bool false, .int .i64 (p.known v)]) ∧ Below w.heap.size w w' := by
  have hkn := fun W (h : Whole W q 65 [.int .i64 p.first, .int .i64 p.last, bv, dv]) => known_any q p v bv dv W h
  have hb4 := (((hb.alloc (.cells #[.string k] 9)).alloc (.cells #[.string ⟨#[]⟩] 9)).alloc (.cells #[.bool false] 4)).alloc (.cells #[.int .i64 0] 25)
  have HKN := Lib.hid (hkn _ hb4)
  clear hkn hb4 hb
  generalize p.known v = r at HKN hk ⊢
  have hkb : (r == 0) = false := by simpa using hk
  go_enter Try.func16, Try.ntmps16
  go_wp2_with fail
  refine HKN.out.mono ?_
  rintro e w1 ⟨rfl, rfl⟩
  go_wp2_with fail
  refine bodyPost_ret (v := .tuple #[.string ⟨#[]⟩, .bool false, .int .i64 r]) (by simp [results, Try.results16, go_sem]) rfl ⟨rfl, ?_⟩
  ((repeat' (first | exact Below.refl _ _ | refine Below.alloc ?_ ?_ _ | refine Below.setCell ?_ ?_ _ | refine Below.drew ?_)); all_goals ((try simp only [World.size_alloc]); omega))

set_option maxHeartbeats 4000000 in
set_option maxRecDepth 100000 in
theorem pget_good (base q n : Nat) (G : Nat → Prop) (p : Pa) (k : K) (v : Int) (w : World) (h : PaAt w base q G n p) (hk : p.known v = 0) :
    Calls Try.prog 16 #[.pointer (some ⟨q, 0, none⟩), .string k, .int .i64 v] w fun e w' => e = .returned (.tuple #[.string (valOf (p.at_ v) k).1, .bool (valOf (p.at_ v) k).2, .int .i64 0]) ∧ Below w.heap.size w w' := by
  obtain ⟨⟨bv, dv, bs, ds, hb, hob, hod, hgh, _⟩, _, hlow⟩ := h
  have hlen := hgh.len
  have hfew := hgh.few
  unfold many at hfew
  have hf : p.first ≤ v := by
    unfold Pa.known at hk
    split at hk
    · cases hk
    · omega
  rw [hgh.link v hf, ← (cnt_take hgh.rise v).1]
  have hkl := cnt_le ds v
  have hrs := (soundP_spec hgh.sound).1
  obtain ⟨W1, hW1⟩ : ∃ W1, W1 = (((w.alloc (.cells #[.string k] 9)).alloc (.cells #[.string ⟨#[]⟩] 9)).alloc (.cells #[.bool false] 4)).alloc (.cells #[.int .i64 0] 25) := ⟨_, rfl⟩
  have hB1 : Below w.heap.size w W1 := by rw [hW1]; exact ((((Below.refl _ w).alloc (Nat.le_refl _) _).alloc (by simp) _).alloc (by simp; omega) _).alloc (by simp; omega) _
  have hs1 : W1.heap.size = w.heap.size + 4 := by rw [hW1]; simp
  have b0 : Boxed W1 w.heap.size 9 (.string k) := by rw [hW1]; exact (((Boxed.new w _ _).alloc _).alloc _).alloc _
  have b1 : Boxed W1 (w.heap.size + 1) 9 (.string ⟨#[]⟩) := by
    rw [hW1]
    have := ((Boxed.new (w.alloc (.cells #[.string k] 9)) 9 (.string ⟨#[]⟩)).alloc (.cells #[.bool false] 4)).alloc (.cells #[.int .i64 0] 25)
    rwa [World.size_alloc] at this
  have b2 : Boxed W1 (w.heap.size + 1 + 1) 4 (.bool false) := by
    rw [hW1]
    have := (Boxed.new ((w.alloc (.cells #[.string k] 9)).alloc (.cells #[.string ⟨#[]⟩] 9)) 4 (.bool false)).alloc (.cells #[.int .i64 0] 25)
    simpa only [World.size_alloc] using this
  have b3 : Boxed W1 (w.heap.size + 1 + 1 + 1) 25 (.int .i64 0) := by
    rw [hW1]
    have := Boxed.new (((w.alloc (.cells #[.string k] 9)).alloc (.cells #[.string ⟨#[]⟩] 9)).alloc (.cells #[.bool false] 4)) 25 (.int .i64 0)
    simpa only [World.size_alloc] using this
  have hbW := hb.below hB1 hb.size
  have hkn := known_any q p v bv dv W1 hbW
  rw [hk] at hkn
  have hup := upTo_any q _ _ bv dv ds v W1 hbW (((hod.rd encD_len).below hB1 (Nat.le_refl _)).mono hB1.size) hgh.rise (by omega)
  have hfi := fun W (hW : Below w.heap.size w W) => find_any bs hrs k bv W (((hob.rd cellsS_len).below hW (Nat.le_refl _)).mono hW.size) (by omega)
  have htl : (ds.take (cnt ds v)).length = cnt ds v := by rw [List.length_take]; omega
  have hbc := fun W (hW : Below w.heap.size w W) => (hb.below hW hb.size).cell 2 _ rfl
  generalize ds.take (cnt ds v) = us at hup htl ⊢
  generalize cnt ds v = m at hup htl hkl
  subst htl
  have hul : us.length < 4611686018427387904 := by omega
  have HFI := Lib.hid hfi; clear hfi
  have HUP := Lib.hid hup; clear hup
  have HKN := Lib.hid hkn; clear hkn
  have HBC := Lib.hid hbc; clear hbc
  have HW1 := Lib.hid hW1; clear hW1
  have HRS := Lib.hid hrs; clear hrs
  clear hob hod hgh hlow hkl hlen hfew hb hbW hf
  refine (callsIn_wide (n := 8)).1 ?_
  refine callsIn_of_wp_marks Try.func16 rfl trivial ?_ rfl
  simp only [Try.ntmps16, List.size_toArray, List.length_cons, List.length_nil, Nat.reduceAdd, Nat.reduceSub, Array.replicate_succ, Array.replicate_zero, List.push_toArray, List.append_toArray, List.nil_append, List.cons_append]
  gi_wp2
  rw [← HW1.out]
  refine ⟨trivial, (callsIn_wide.2 HKN.out).mono ?_⟩
  rintro e w1 ⟨rfl, rfl⟩
  clear HW1 HKN
  gi_wp2
  refine ⟨trivial, (callsIn_wide.2 HUP.out).mono ?_⟩
  rintro e W2 ⟨A, c, rfl, hrd, hb2⟩
  have hs2 := hb2.size
  gi_wp2
  refine ⟨trivial, (backward_in Fence.wide _ trivial rfl _ _ _ _).mono ?_⟩
  rintro e w' ⟨rfl, rfl⟩
  obtain ⟨W3, hW3⟩ : ∃ W3, W3 = W2.alloc (.cells #[.slice A us.length c] 63) := ⟨_, rfl⟩
  have bN : Boxed W3 W2.heap.size 63 (.slice A us.length c) := by rw [hW3]; exact Boxed.new W2 _ _
  have hB3 : Below w1.heap.size w1 W3 := by rw [hW3]; exact hb2.alloc hs2 _
  have hs3 : W3.heap.size = W2.heap.size + 1 := by rw [hW3]; simp
  have hrd3 : RdD W3 W3.heap.size (.slice A us.length c) us := (hrd.below (by rw [hW3]; exact (Below.refl _ W2).alloc (Nat.le_refl _) _) (Nat.le_refl _)).mono (by omega)
  rw [← hW3]
  clear hW3 hrd hb2 HUP
  gi_wp2
  refine wpIn_rangeFunc_ownH rfl (by omega) (gf := 50) (lb := #[.pointer (some ⟨W2.heap.size, 0, none⟩)]) rfl trivial (enters_of Try.func50 (by kernel_rfl) rfl)
    (backward_stops Fence.wide 7 trivial rfl (by omega) W2.heap.size W3.heap.size A c us hul W3 (by omega) (Nat.le_refl _) bN.cell hrd3) belowK_t (belowK_b (Nat.le_refl _)) (Below.refl _ _) (fun _ => rfl)
    (fun (pre : List (Fin us.length)) W => (∀ x ∈ pre, namesB us[x].2 k = false) ∧ Below W3.heap.size W3 W)
    (fun jc (pre : List (Fin us.length)) W => (jc = .ret ∧ ∃ (ini : List (Fin us.length)) (last : Fin us.length), pre = ini ++ [last] ∧ (∀ x ∈ ini, namesB us[x].2 k = false) ∧ namesB us[last].2 k = true ∧ Boxed W (w.heap.size + 1) 9 (.string (leftV us[last].2).1) ∧ Boxed W (w.heap.size + 1 + 1) 4 (.bool (leftV us[last].2).2) ∧ Boxed W (w.heap.size + 1 + 1 + 1) 25 (.int .i64 0)) ∧ Below w.heap.size w W)
    (OwnFrom.and (ownFrom_pure _ _) (ownFrom_below (Nat.le_refl _) (Nat.le_refl _)))
    (fun jc => OwnFrom.and (Own.from (fun s X Y row hs hg hr => by
      obtain ⟨hc, ini, last, e1, e2, e3, e4, e5, e6⟩ := hs
      exact ⟨hc, ini, last, e1, e2, e3, boxed_own _ _ (fun (_ : Unit) => Value.string (leftV us[last].2).1) () X Y row e4 hg hr, boxed_own _ _ (fun (_ : Unit) => Value.bool (leftV us[last].2).2) () X Y row e5 hg hr, boxed_own _ _ (fun (_ : Unit) => Value.int .i64 0) () X Y row e6 hg hr⟩) _) (ownFrom_below (Nat.le_refl _) (by omega)))
    ⟨by simp, Below.refl _ _⟩
    (fun (x : Fin us.length) a' W => ∃ Bx, w.heap.size + 1 + 1 + 1 < Bx ∧ Whole W Bx 72 (encD us[x]) ∧ a' = { tmps := #[.pointer (some ⟨q, 0, none⟩), .string k, .int .i64 v, undef, .pointer (some ⟨w.heap.size, 0, none⟩), undef, .pointer (some ⟨w.heap.size + 1, 0, none⟩), .pointer (some ⟨w.heap.size + 1 + 1, 0, none⟩), .pointer (some ⟨w.heap.size + 1 + 1 + 1, 0, none⟩), .int .i64 0, undef, .pointer (some ⟨Bx, 0, none⟩), undef, undef, undef, undef, .pointer (some ⟨q, 0, none⟩), .int .i64 v, .int .i64 0, .int .i64 0, .bool false, undef, .pointer (some ⟨q, 0, none⟩), .int .i64 v, .slice A us.length c, .func (.func 50) #[] #[.pointer (some ⟨W2.heap.size, 0, none⟩)], .int .i64 (x.1 : Int), .agg #[.int .i64 us[x].1, .int .i64 us[x].2.kind, .string us[x].2.key, .string us[x].2.val], undef, undef, undef, undef, undef, undef, undef, undef, undef, undef, undef, undef, undef, undef, undef, undef, undef, undef, undef, undef, undef, undef, undef], defers := [] })
    (fun x a' _ X Y row hs hg hr => by obtain ⟨Bx, h1, h2, h3⟩ := hs; exact ⟨Bx, h1, whole_own Bx 72 (fun (_ : Unit) => encD us[x]) () X Y row h2 hg (fun r e => (hr r e).2), h3⟩)
    ?assign ?body ?done ?stop
  case assign =>
    rintro l pre x W K ⟨hp, hBW⟩ hK
    unfold encB
    generalize us[x] = d at hK ⊢
    obtain ⟨xv, xk, xx, xy⟩ := d
    have hsA : w.heap.size + 1 + 1 + 1 < W.heap.size := by have := hBW.size; have := hB3.size; omega
    clear hs1 hs2 hs3
    gi_wp2
    exact hK _ _ ((KeepsOthers.alloc _ _).from _) ((Below.refl _ W).alloc hBW.size _) ⟨hp, hBW.alloc hBW.size _⟩ ⟨W.heap.size, hsA, Whole.fresh W _ _, rfl⟩
  case body =>
    rintro l pre x a' W hl _ ⟨hp, hBW⟩ ⟨Bx, hBx, hW, rfl⟩ hlt
    have c1 := hW.cell 1 _ rfl
    have c2 := hW.cell 2 _ rfl
    have c3 := hW.cell 3 _ rfl
    have hB1W : Below w1.heap.size w1 W := hB3.trans (hBW.mono (by omega))
    have b0' : Boxed W w.heap.size 9 (.string k) := (hB1W.block _ b0.lt).trans b0
    have b1' : Boxed W (w.heap.size + 1) 9 (.string ⟨#[]⟩) := (hB1W.block _ b1.lt).trans b1
    have b2' : Boxed W (w.heap.size + 1 + 1) 4 (.bool false) := (hB1W.block _ b2.lt).trans b2
    have b3' : Boxed W (w.heap.size + 1 + 1 + 1) 25 (.int .i64 0) := (hB1W.block _ b3.lt).trans b3
    have hBw : Below w.heap.size w W := hB1.trans (hB1W.mono (by omega))
    have hwW : W3.heap.size ≤ W.heap.size := hBW.size
    have d0 := b0'.cell
    have hfin : ∀ (W' W'' : World) (u : Act), Below W.heap.size W W' → Below W'.heap.size W' W'' → namesB us[x].2 k = true → ownPostG W3.heap.size (Below W3.heap.size)
      (fun (pre : List (Fin us.length)) W => (∀ x ∈ pre, namesB us[x].2 k = false) ∧ Below W3.heap.size W3 W)
      (fun jc (pre : List (Fin us.length)) W => (jc = .ret ∧ ∃ (ini : List (Fin us.length)) (last : Fin us.length), pre = ini ++ [last] ∧ (∀ x ∈ ini, namesB us[x].2 k = false) ∧ namesB us[last].2 k = true ∧ Boxed W (w.heap.size + 1) 9 (.string (leftV us[last].2).1) ∧ Boxed W (w.heap.size + 1 + 1) 4 (.bool (leftV us[last].2).2) ∧ Boxed W (w.heap.size + 1 + 1 + 1) 25 (.int .i64 0)) ∧ Below w.heap.size w W)
      (pre ++ [x]) W .ret u (((W''.setCell ⟨w.heap.size + 1, 0, none⟩ (.string (leftV us[x].2).1)).setCell ⟨w.heap.size + 1 + 1, 0, none⟩ (.bool (leftV us[x].2).2)).setCell ⟨w.heap.size + 1 + 1 + 1, 0, none⟩ (.int .i64 0)) := fun W' W'' u h1 h2 h3 => by
      have hb : Below W.heap.size W W'' := h1.trans (h2.mono h1.size)
      have e1 : Boxed W'' (w.heap.size + 1) 9 (.string ⟨#[]⟩) := (hb.block _ b1'.lt).trans b1'
      have e2 : Boxed W'' (w.heap.size + 1 + 1) 4 (.bool false) := (hb.block _ b2'.lt).trans b2'
      have e3 : Boxed W'' (w.heap.size + 1 + 1 + 1) 25 (.int .i64 0) := (hb.block _ b3'.lt).trans b3'
      refine ⟨((keeps_of_below hb).trans (((KeepsOthers.setCell _ _ _).trans (KeepsOthers.setCell _ _ _)).trans (KeepsOthers.setCell _ _ _))).from _, ⟨rfl, pre, x, rfl, hp, h3, ((e1.set _).other (by omega) _).other (by omega) _, ((e2.other (by omega) _).set _).other (by omega) _, ((e3.other (by omega) _).other (by omega) _).set _⟩, ?_⟩
      exact (((hBw.trans (hb.mono hBw.size)).setCell (p := ⟨w.heap.size + 1, 0, none⟩) (show w.heap.size ≤ w.heap.size + 1 by omega) _).setCell (p := ⟨w.heap.size + 1 + 1, 0, none⟩) (show w.heap.size ≤ w.heap.size + 1 + 1 by omega) _).setCell (p := ⟨w.heap.size + 1 + 1 + 1, 0, none⟩) (show w.heap.size ≤ w.heap.size + 1 + 1 + 1 by omega) _
    have hgo : ∀ (W' : World) (u : Act), Below W.heap.size W W' → namesB us[x].2 k = false → ownPostG W3.heap.size (Below W3.heap.size)
      (fun (pre : List (Fin us.length)) W => (∀ x ∈ pre, namesB us[x].2 k = false) ∧ Below W3.heap.size W3 W)
      (fun jc (pre : List (Fin us.length)) W => (jc = .ret ∧ ∃ (ini : List (Fin us.length)) (last : Fin us.length), pre = ini ++ [last] ∧ (∀ x ∈ ini, namesB us[x].2 k = false) ∧ namesB us[last].2 k = true ∧ Boxed W (w.heap.size + 1) 9 (.string (leftV us[last].2).1) ∧ Boxed W (w.heap.size + 1 + 1) 4 (.bool (leftV us[last].2).2) ∧ Boxed W (w.heap.size + 1 + 1 + 1) 25 (.int .i64 0)) ∧ Below w.heap.size w W)
      (pre ++ [x]) W .normal u W' := fun W' u h1 h3 => ⟨(keeps_of_below h1).from _, h1.mono hwW, fun y hy => by
        rcases List.mem_append.1 hy with hy | hy
        · exact hp y hy
        · simp at hy; subst hy; exact h3, hBW.trans (h1.mono hwW)⟩
    have hnm := fun W => names_any us[x].2 k W
    have hlf := fun W => left_any us[x].2 W
    obtain ⟨nb, hnb⟩ : ∃ nb, nb = namesB us[x].2 k := ⟨_, rfl⟩
    rw [← hnb] at hnm hfin hgo
    clear hnb hp
    have hbx := hW.size
    obtain ⟨D, hD⟩ : ∃ D, D = us[x] := ⟨_, rfl⟩
    rw [← hD] at hnm hlf hfin c1 c2 c3 ⊢
    clear hD hW
    obtain ⟨lx, ly, hlr⟩ : ∃ lx ly, leftV D.2 = (lx, ly) := ⟨_, _, rfl⟩
    rw [hlr] at hlf hfin
    simp only at hlf hfin
    have HFIN := Lib.hid hfin; clear hfin hlr
    have HGO := Lib.hid hgo; clear hgo
    have HLF := Lib.hid hlf; clear hlf
    have HNM := Lib.hid hnm; clear hnm
    obtain ⟨xv, xk, xx, xy⟩ := D
    unfold cval at HNM HLF
    simp only at c1 c2 c3 HNM HLF HFIN
    have f1' := fun W' (h : Below W.heap.size W W') => (show Boxed W' (w.heap.size + 1) 9 (.string ⟨#[]⟩) from (h.block _ b1'.lt).trans b1')
    have f2' := fun W' (h : Below W.heap.size W W') => (show Boxed W' (w.heap.size + 1 + 1) 4 (.bool false) from (h.block _ b2'.lt).trans b2')
    have f3' := fun W' (h : Below W.heap.size W W') => (show Boxed W' (w.heap.size + 1 + 1 + 1) 25 (.int .i64 0) from (h.block _ b3'.lt).trans b3')
    have F1 := Lib.hid f1'; clear f1'
    have F2 := Lib.hid f2'; clear f2'
    have F3 := Lib.hid f3'; clear f3'
    have hx1 := x.2
    clear hs1 hs2 hs3 hwW hx1 hlt hl hBx
    gi_wp2
    refine ⟨trivial, (CallsIn.inRound l (callsIn_wide.2 (HNM.out _))).mono ?_⟩
    rintro e W' ⟨rfl, hbW'⟩
    have HBW' := Lib.hid hbW'
    have c1' := (hbW'.cell (p := ⟨Bx, 1, none⟩) hbx).trans c1
    have c2' := (hbW'.cell (p := ⟨Bx, 2, none⟩) hbx).trans c2
    have c3' := (hbW'.cell (p := ⟨Bx, 3, none⟩) hbx).trans c3
    clear hbW' c1 c2 c3
    cases nb with
    | true =>
      gi_wp2
      refine ⟨trivial, (CallsIn.inRound l (callsIn_wide.2 (HLF.out _))).mono ?_⟩
      rintro e W'' ⟨rfl, hbW''⟩
      have hbb := HBW'.out.trans (hbW''.mono HBW'.out.size)
      have g1 := F1.out _ hbb
      have g2 := F2.out _ hbb
      have g3 := F3.out _ hbb
      have HF := Lib.hid (HFIN.out W' W'' · HBW'.out hbW'' (by first | rfl | trivial))
      have e1 := g1.cell
      have z1 := g1.frozen
      have e2 := (g2.other (B' := w.heap.size + 1) (by omega) (.string lx)).cell
      have z2 := (g2.other (B' := w.heap.size + 1) (by omega) (.string lx)).frozen
      have e3 := ((g3.other (B' := w.heap.size + 1) (by omega) (.string lx)).other (B' := w.heap.size + 1 + 1) (by omega) (.bool ly)).cell
      have z3 := ((g3.other (B' := w.heap.size + 1) (by omega) (.string lx)).other (B' := w.heap.size + 1 + 1) (by omega) (.bool ly)).frozen
      clear hbb hbW'' g1 g2 g3 c1' c2' c3'
      gi_wp2
      exact HF.out _
    | false =>
      gi_wp2
      exact HGO.out W' _ HBW'.out (by first | rfl | trivial)
  case done =>
    rintro D ys W hD rfl ⟨hp, hBW⟩ hK
    have hB1W : Below w1.heap.size w1 W := hB3.trans (hBW.mono (by omega))
    have hBw : Below w.heap.size w W := hB1.trans (hB1W.mono (by omega))
    have hall : ∀ i (_ : i < us.length), namesB us[i].2 k = false := fun i hi => hp ⟨i, hi⟩ (bk_mem _ (by simp; omega))
    have hva := valOf_apply (l := bs) (cs := chgs us) HRS.out k 0 (Nat.zero_le _) (fun j hj _ => by
      have h2 : j < us.length := by rwa [chgs_len] at hj
      rw [chgs_get us j h2]
      exact hall j h2)
    rw [List.take_zero] at hva
    have HVA := Lib.hid (show valOf (applyP bs (chgs us)) k = valOf bs k from hva)
    clear hva hall hp
    have d0 := (show Boxed W w.heap.size 9 (.string k) from (hB1W.block _ b0.lt).trans b0).cell
    have q2 := HBC.out W hBw
    have hq2 : q < W.heap.size := World.block_lt_of_cell? W _ q2
    have hwl : w.heap.size < W.heap.size := World.block_lt_of_cell? W _ d0
    gi_wp2
    refine wpIn_wide.2 ?_
    refine wp_region_noPanic ?_
    refine wp_region_planB [(true, 0), (true, 1), (true, 2), (true, 3), (true, 4), (false, 5), (true, 6), (true, 7), (true, 8), (true, 9), (true, 10)] (by kernel_rfl) (by kernel_rfl) (fun _ _ _ _ _ h => h) ?_
    iterate 5 (refine PlanB.take (v := ?_) rfl rfl ?_ ?_; rotate_left; (focus (intro X hX; have m0 := (hX.cell (p := ⟨w.heap.size, 0, none⟩) hwl).trans d0; have m2 := (hX.cell (p := ⟨q, 2, none⟩) hq2).trans q2; go_simp; (try with_reducible rfl); done)); (try simp only [Act.put, List.setIfInBounds_toArray, List.set_cons_zero, List.set_cons_succ]))
    refine PlanB.step rfl rfl (fun Kk hKk => ?_)
    go_simp
    refine (HFI.out W.drew hBw.drew).mono ?_
    rintro e W4 ⟨rfl, hb4⟩
    refine hKk.out _ _ hb4 ?_
    clear hKk Kk
    (try simp only [Act.put, List.setIfInBounds_toArray, List.set_cons_zero, List.set_cons_succ])
    repeat (refine PlanB.take (v := ?_) rfl rfl ?_ ?_; rotate_left; (focus (intro X hX; go_simp; (try with_reducible rfl); done)); (try simp only [Act.put, List.setIfInBounds_toArray, List.set_cons_zero, List.set_cons_succ]))
    simp only [PlanB]
    refine NoPanic.normal ?_
    obtain ⟨fx, fy, hfv⟩ : ∃ fx fy, valOf bs k = (fx, fy) := ⟨_, _, rfl⟩
    have hv2 := HVA.out
    rw [hfv] at hv2 ⊢
    have HV2 := Lib.hid hv2; clear hv2 hfv HVA
    have hbw4 : Below W.heap.size W W4 := (Below.refl _ W).drew.trans hb4
    have g1 : Boxed W4 (w.heap.size + 1) 9 (.string ⟨#[]⟩) := (hbw4.block _ (by have := hB1W.size; omega)).trans ((hB1W.block _ b1.lt).trans b1)
    have g2 : Boxed W4 (w.heap.size + 1 + 1) 4 (.bool false) := (hbw4.block _ (by have := hB1W.size; omega)).trans ((hB1W.block _ b2.lt).trans b2)
    have g3 : Boxed W4 (w.heap.size + 1 + 1 + 1) 25 (.int .i64 0) := (hbw4.block _ (by have := hB1W.size; omega)).trans ((hB1W.block _ b3.lt).trans b3)
    have hK4 : W4.heap[D]? = some (.deferred (some [])) := (hbw4.block D (Array.getElem?_eq_some_iff.1 hK).1).trans hK
    have e1 := g1.cell
    have z1 := g1.frozen
    have e2 := (g2.other (B' := w.heap.size + 1) (by omega) (.string fx)).cell
    have z2 := (g2.other (B' := w.heap.size + 1) (by omega) (.string fx)).frozen
    have e3 := ((g3.other (B' := w.heap.size + 1) (by omega) (.string fx)).other (B' := w.heap.size + 1 + 1) (by omega) (.bool fy)).cell
    have z3 := ((g3.other (B' := w.heap.size + 1) (by omega) (.string fx)).other (B' := w.heap.size + 1 + 1) (by omega) (.bool fy)).frozen
    have hB4 : Below w.heap.size w W4 := hBw.trans (hbw4.mono hBw.size)
    have HB4 := Lib.hid hB4
    have HG1 := Lib.hid g1
    have HG2 := Lib.hid g2
    have HG3 := Lib.hid g3
    clear hb4 hbw4 hBw hB1W hBW d0 q2 hq2 hwl hB4 g1 g2 g3 hK
    gi_wp2
    have k1 := ((HG1.out.set (.string fx)).other (B' := w.heap.size + 1 + 1) (by omega) (.bool fy)).other (B' := w.heap.size + 1 + 1 + 1) (by omega) (.int .i64 0)
    have k2 := ((HG2.out.other (B' := w.heap.size + 1) (by omega) (.string fx)).set (.bool fy)).other (B' := w.heap.size + 1 + 1 + 1) (by omega) (.int .i64 0)
    have k3 := ((HG3.out.other (B' := w.heap.size + 1) (by omega) (.string fx)).other (B' := w.heap.size + 1 + 1) (by omega) (.bool fy)).set (.int .i64 0)
    have hK5 := (((KeepsOthers.setCell W4 ⟨w.heap.size + 1, 0, none⟩ (.string fx)).trans (KeepsOthers.setCell _ ⟨w.heap.size + 1 + 1, 0, none⟩ (.bool fy))).trans (KeepsOthers.setCell _ ⟨w.heap.size + 1 + 1 + 1, 0, none⟩ (.int .i64 0))).same D _ hK4 rfl
    have hB5 := ((HB4.out.setCell (p := ⟨w.heap.size + 1, 0, none⟩) (show w.heap.size ≤ w.heap.size + 1 by omega) (.string fx)).setCell (p := ⟨w.heap.size + 1 + 1, 0, none⟩) (show w.heap.size ≤ w.heap.size + 1 + 1 by omega) (.bool fy)).setCell (p := ⟨w.heap.size + 1 + 1 + 1, 0, none⟩) (show w.heap.size ≤ w.heap.size + 1 + 1 + 1 by omega) (.int .i64 0)
    refine ⟨by simp, .inl ⟨_, _, rfl, run_takeDeferred hK5, ?_⟩⟩
    have h1 := cell_kept k1.cell (grownBy_putObj' _ D (.deferred none)) (fun r e => by cases e; exact ⟨_, hK5, rfl⟩)
    have h2 := cell_kept k2.cell (grownBy_putObj' _ D (.deferred none)) (fun r e => by cases e; exact ⟨_, hK5, rfl⟩)
    have h3 := cell_kept k3.cell (grownBy_putObj' _ D (.deferred none)) (fun r e => by cases e; exact ⟨_, hK5, rfl⟩)
    refine ⟨.tuple #[.string fx, .bool fy, .int .i64 0], ?_, ⟨by rw [HV2.out], hB5.trans (belowK_b (w := w) (Nat.le_refl _) _ D _ _ (by omega) hK5 rfl rfl)⟩⟩
    simp [results, Try.f16, go_sem, h1, h2, h3]
  case stop =>
    rintro D jc pre W hD ⟨m, hm, rfl⟩ ⟨⟨rfl, ini, last, e1, e2, e3, b1', b2', b3'⟩, hBw⟩ hK
    have hini := bk_last hm e1.symm
    have hlast := valOf_last (l := bs) (cs := chgs us) HRS.out k last.1 (by rw [chgs_len]; exact last.2) (by rw [chgs_get us last.1 last.2]; exact e3) (fun j hj hij => by
      have h2 : j < us.length := by rwa [chgs_len] at hj
      have := e2 ⟨j, h2⟩ (by rw [hini]; exact bk_mem _ (by simp; omega))
      rw [chgs_get us j h2]
      exact this)
    rw [chgs_get us last.1 last.2] at hlast
    have d1 := b1'.cell
    have d2 := b2'.cell
    have d3 := b3'.cell
    gi_wp2
    refine ⟨by simp, .inl ⟨_, _, rfl, run_takeDeferred hK, ?_⟩⟩
    have h1 := cell_kept d1 (grownBy_putObj' _ D (.deferred none)) (fun r e => by cases e; exact ⟨_, hK, rfl⟩)
    have h2 := cell_kept d2 (grownBy_putObj' _ D (.deferred none)) (fun r e => by cases e; exact ⟨_, hK, rfl⟩)
    have h3 := cell_kept d3 (grownBy_putObj' _ D (.deferred none)) (fun r e => by cases e; exact ⟨_, hK, rfl⟩)
    refine ⟨.tuple #[.string (leftV us[last].2).1, .bool (leftV us[last].2).2, .int .i64 0], ?_, ⟨by rw [hlast]; rfl, hBw.trans (belowK_b (w := w) (Nat.le_refl _) _ D _ _ (by omega) hK rfl rfl)⟩⟩
    simp [results, Try.f16, go_sem, h1, h2, h3]

theorem pget_any (base q n : Nat) (G : Nat → Prop) (p : Pa) (k : K) (v : Int) (w : World) (h : PaAt w base q G n p) (hv : I64 v) (hk : k.size < 4611686018427387904) :
    Calls Try.prog 16 #[.pointer (some ⟨q, 0, none⟩), .string k, .int .i64 v] w fun e w' => e = .returned (.tuple #[.string (p.get k v).1.1, .bool (p.get k v).1.2, .int .i64 (p.get k v).2]) ∧ Below w.heap.size w w' := by
  unfold Pa.get
  by_cases hkn : p.known v = 0
  · rw [if_neg (by simpa using hkn)]
    exact pget_good base q n G p k v w h hkn
  · rw [if_pos hkn]
    obtain ⟨bv, dv, bs, ds, hb, _⟩ := h.blk
    exact pget_bad q p bv dv k v w hb hkn
end Go.Proofs.Ytpfhkijnaiopoaa
