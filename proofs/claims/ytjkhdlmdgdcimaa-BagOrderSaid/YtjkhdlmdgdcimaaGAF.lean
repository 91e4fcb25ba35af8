/- The program's bag: find, Len, Look; and what no bag answers. -/
import Derived.Test.YtjkhdlmdgdcimaaGAA
import Derived.Test.YtjkhdlmdgdcimaaRws
namespace Go.Proofs.Ytjkhdlmdgdcimaa
open Go.RowKit Go.Conc

set_option maxHeartbeats 2000000 in
set_option maxRecDepth 100000 in
theorem blen_any (base q : Nat) (G : Nat → Prop) (b : Bg) (w : World) (h : BagAt w base q G b) :
    Calls Try.prog 20 #[.pointer (some ⟨q, 0, none⟩)] w fun e w' => e = .returned (.int .i64 (b.l.length : Int)) ∧ Below w.heap.size w w' := by
  obtain ⟨I, h, _⟩ := h
  have c2 := h.whole.cell 2 _ rfl
  rw [h.len]
  clear h
  go_enter Try.func20, Try.ntmps20
  go_wp2_with fail
  go_ret
  exact ⟨rfl, Below.refl _ _⟩

set_option maxHeartbeats 2000000 in
set_option maxRecDepth 100000 in
theorem find_ok (base q : Nat) (I : Bi) (b : Bg) (k : Nat) (w : World) (h : BagIs w base q I b) (hk : k < I.ord.length) :
    Calls Try.prog 22 #[.pointer (some ⟨q, 0, none⟩), .int .i64 (k : Int)] w fun e w' => e = .returned (.tuple #[.pointer (some ⟨I.gp, I.ord[k] * 3, none⟩), .int .i64 0]) ∧ Below w.heap.size w w' := by
  have c1 := h.whole.cell 1 _ rfl
  have c2 := h.whole.cell 2 _ rfl
  obtain ⟨go, hO, hc, hcell⟩ := h.cells hk
  have hp := h.all.at hk
  obtain ⟨p, hpe⟩ : ∃ p, p = I.ord[k] := ⟨_, rfl⟩
  rw [← hpe] at hcell hp ⊢
  rw [hO] at c2
  have hps : p * 3 < 9223372036854775808 := by have := h.ok.1; omega
  clear h hpe hO
  generalize I.ord.length = n at *
  generalize b.room = m at *
  have g0 : ¬ (k : Int) < 0 := by omega
  have g1 : ¬ (n : Int) ≤ (k : Int) := by omega
  have g2 : (k : Int) < (n : Int) := by omega
  have g3 : (p : Int) < (m : Int) := by omega
  have g4 : (0 : Int) ≤ (p : Int) := by omega
  have g5 : (0 : Int) ≤ (k : Int) := by omega
  go_enter Try.func22, Try.ntmps22
  go_wp2_with fail
  refine wp_region_plan (S := fun W => W.cell? ⟨q, 1, none⟩ = some (.slice (some ⟨I.gp, 0, none⟩) m m) ∧ W.cell? ⟨q, 2, none⟩ = some (.slice (some ⟨go, 0, none⟩) n I.c) ∧ W.cell? ⟨go, k, none⟩ = some (.int .i64 (p : Int)))
    [(true, 0), (true, 1), (true, 2), (true, 3), (true, 4), (true, 5), (true, 6), (true, 7), (true, 8), (true, 9), (true, 10), (true, 11), (true, 12), (true, 13)] (by kernel_rfl) (by kernel_rfl) (fun _ _ d _ _ h => by cases d <;> exact h) ⟨c1, c2, hcell⟩ ?_
  repeat (refine Plan.take (v := ?_) rfl rfl ?_ ?_; rotate_left; (focus (intro W hW; have k0 := hW.1; have k1 := hW.2.1; have k2 := hW.2.2; go_simp; (try with_reducible rfl); done)); (try simp only [Act.put, List.setIfInBounds_toArray, List.set_cons_zero, List.set_cons_succ]))
  simp only [Plan]
  go_wp2_with fail
  go_ret2
  exact ⟨by simp, (Below.refl _ _).drew⟩
set_option maxHeartbeats 2000000 in
set_option maxRecDepth 100000 in
theorem find_no (base q : Nat) (I : Bi) (b : Bg) (i : Int) (w : World) (h : BagIs w base q I b) (hi : ¬ b.has i) :
    Calls Try.prog 22 #[.pointer (some ⟨q, 0, none⟩), .int .i64 i] w fun e w' => e = .returned (.tuple #[.pointer none, .int .i64 4]) ∧ Below w.heap.size w w' := by
  have c2 := h.whole.cell 2 _ rfl
  have hl := h.len
  have hi2 : i < 0 ∨ (I.ord.length : Int) ≤ i := by unfold Bg.has at hi; omega
  clear h hi hl
  generalize I.ord.length = n at *
  by_cases h0 : i < 0
  · clear hi2
    go_enter Try.func22, Try.ntmps22
    go_wp2_with fail
    go_ret2
    exact ⟨rfl, Below.refl _ _⟩
  · have h1 : (n : Int) ≤ i := by omega
    clear hi2
    go_enter Try.func22, Try.ntmps22
    go_wp2_with fail
    go_ret2
    exact ⟨rfl, Below.refl _ _⟩
set_option maxRecDepth 100000 in
theorem find_nil (i : Int) (w : World) :
    Calls Try.prog 22 #[.pointer none, .int .i64 i] w fun e w' => e = .returned (.tuple #[.pointer none, .int .i64 1]) ∧ Below w.heap.size w w' := by
  go_enter Try.func22, Try.ntmps22
  go_wp2_with fail
  go_ret2
  exact ⟨rfl, Below.refl _ _⟩

set_option maxRecDepth 100000 in
/-- a text's bytes as a new slice -/
theorem wp_freshStr {o : Oper} {a : Act} {K : Act → World → Prop} {Q : Exit → Act → World → Prop} {w : World} (x : Operand)
    (ho : o.op = .call { callee := .builtin .append, args := #[.const (.slice none 0 0), x], argTypes := #[32, 9] })
    (S : ByteArray) (t : List UInt8) (hS : S = strB t) (hx : a.eval x = .string S) (ht : t.length ≤ 131072)
    (h : ∀ A c w', OwnB w' w.heap.size (.slice A t.length c) t → Below w.heap.size w w' → K (a.put o.dst (.slice A t.length c)) w') : o.wp Try.prog a w K Q := by
  have hsz : S.size = t.length := by rw [hS]; simp [strB, ByteArray.size]
  have hdt : S.data.toList = t := by rw [hS]; simp [strB]
  obtain ⟨v', w', hr, h2, h3⟩ := run_append_str w w.heap.size o.type (.slice none 0 0) [] (Own.nil _ _) S (by simp; omega) (by omega) (Nat.le_refl _)
  rw [List.nil_append, hdt] at h2
  have hv : ∃ A' c', v' = .slice A' t.length c' := by
    rcases h2.form with ⟨hv, h0⟩ | ⟨g, cap, hv, _⟩
    · exact ⟨none, 0, by rw [h0]; exact hv⟩
    · exact ⟨_, _, hv⟩
  obtain ⟨A', c', rfl⟩ := hv
  have hc0 : a.eval (.const (.slice none 0 0)) = .slice none 0 0 := rfl
  unfold Oper.wp execOp
  simp only [ho, resolve, invoke, builtin, Sem.run_bind, Sem.run_pure, Result.andThen_ok, List.map_toArray, List.map_cons, List.map_nil, hc0, hx, hr]
  exact h A' c' w' h2 ((Below.refl _ w).grown h3 (Nat.le_refl _) (fun _ h => by cases h))
theorem OwnB.rdNew {w : World} {n : Nat} {v : Value} {t : List UInt8} {N : Nat → Prop} (h : OwnB w n v t) (hN : ∀ i, N i → i < n) : RdBG w w.heap.size N v t := by
  obtain ⟨A, c, rfl, hc, hi⟩ := h.rdB.at
  refine ⟨A, c, rfl, hc, fun i hs => ?_⟩
  obtain ⟨b, o, hA, hb, h1⟩ := hi i hs
  refine ⟨b, o, hA, hb, fun hn => ?_, h1⟩
  have h2 := hN b hn
  rcases h.form with ⟨_, h0⟩ | ⟨g, cap, e, hg, _⟩
  · rw [h0] at hs; simp at hs
  · rw [hA] at e
    injection e with e _ _
    injection e with e
    injection e with e _
    omega

set_option maxHeartbeats 4000000 in
set_option maxRecDepth 100000 in
theorem look_ok (base q : Nat) (I : Bi) (b : Bg) (i : Int) (w : World) (h : BagIs w base q I b) :
    Calls Try.prog 12 #[.pointer (some ⟨q, 0, none⟩), .int .i64 i] w fun e w' => ∃ A c, e = .returned (.tuple #[.int .i64 (b.look i).1.to, .slice A (b.look i).1.text.length c, .int .i64 (b.look i).2]) ∧ OwnB w' w.heap.size (.slice A (b.look i).1.text.length c) (b.look i).1.text ∧ Below w.heap.size w w' := by
  by_cases hi : b.has i
  · obtain ⟨h0, h1⟩ := id hi
    obtain ⟨k, rfl⟩ : ∃ k : Nat, i = (k : Int) := ⟨i.toNat, by omega⟩
    have hk : k < I.ord.length := by have := h.len; omega
    obtain ⟨hb, hx⟩ := h.at hk
    have hp := h.all.at hk
    rw [← h.mlen] at hp
    have hr : b.look (k : Int) = (b.l[k], 0) := by rw [Bg.look_at hi]; simp
    rw [hr, ← hx]
    have hfind := find_ok base q I b k w h hk
    obtain ⟨p, hpe⟩ : ∃ p, p = I.ord[k] := ⟨_, rfl⟩
    simp only [← hpe] at hfind hp hx ⊢
    have hcell := h.letter hp
    have ht := h.ok.look (k : Int)
    rw [hr, ← hx] at ht
    have hgl : I.gp < w.heap.size := (h.low (.inr (.inr (.inl rfl)))).2
    simp only at ht
    generalize I.ms[p] = x at hcell ht ⊢
    obtain ⟨to, tx, sp⟩ := x
    have q0 := hcell 0 _ rfl
    have q1 := hcell 1 _ rfl
    simp only at ht
    obtain ⟨S, hS⟩ : ∃ S, S = strB tx := ⟨_, rfl⟩
    rw [← hS] at q1
    have HS := Lib.hid hS; clear hS
    have HF := Lib.hid hfind
    have HT := Lib.hid ht
    clear hfind hcell hpe hr hx ht hi h0 h1 h
    go_enter Try.func12, Try.ntmps12
    go_wp2_with fail
    refine HF.out.mono ?_
    rintro e w1 ⟨rfl, hb1⟩
    have z0 : w1.cell? ⟨I.gp, p * 3, none⟩ = some (.int .i64 to) := (hb1.cell (p := ⟨I.gp, p * 3, none⟩) hgl).trans q0
    have z1 : w1.cell? ⟨I.gp, p * 3 + 1, none⟩ = some (.string S) := (hb1.cell (p := ⟨I.gp, p * 3 + 1, none⟩) hgl).trans q1
    have HB1 := Lib.hid hb1
    clear hb1 q0 q1 HF
    go_wp2_with fail
    refine wp_region_plan (S := fun W => W.cell? ⟨I.gp, p * 3, none⟩ = some (.int .i64 to) ∧ W.cell? ⟨I.gp, p * 3 + 1, none⟩ = some (.string S))
      [(true, 0), (true, 1), (true, 2), (true, 3), (true, 4), (true, 5), (true, 6), (true, 7), (false, 8), (true, 9), (true, 10), (true, 11)] (by kernel_rfl) (by kernel_rfl) (fun _ _ d _ _ h => by cases d <;> exact h) ⟨z0, z1⟩ ?_
    repeat (refine Plan.take (v := ?_) rfl rfl ?_ ?_; rotate_left; (focus (intro W hW; have k0 := hW.1; have k1 := hW.2; go_simp; (try with_reducible rfl); done)); (try simp only [Act.put, List.setIfInBounds_toArray, List.set_cons_zero, List.set_cons_succ]))
    refine Plan.step rfl rfl (fun Kk hKk => ?_)
    refine wp_freshStr _ rfl S tx HS.out rfl HT.out ?_
    intro A c w3 ho3 hb3
    have hs1 := HB1.out.size
    refine hKk.out _ _ ⟨(hb3.cell (p := ⟨I.gp, p * 3, none⟩) (Nat.lt_of_lt_of_le hgl hs1)).trans z0, (hb3.cell (p := ⟨I.gp, p * 3 + 1, none⟩) (Nat.lt_of_lt_of_le hgl hs1)).trans z1⟩ ?_
    clear hKk Kk
    (try simp only [Act.put, List.setIfInBounds_toArray, List.set_cons_zero, List.set_cons_succ])
    repeat (refine Plan.take (v := ?_) rfl rfl ?_ ?_; rotate_left; (focus (intro W hW; have k0 := hW.1; have k1 := hW.2; go_simp; (try with_reducible rfl); done)); (try simp only [Act.put, List.setIfInBounds_toArray, List.set_cons_zero, List.set_cons_succ]))
    simp only [Plan]
    have HO3 := Lib.hid ho3
    have HB3 := Lib.hid hb3
    clear ho3 hb3 z0 z1
    go_wp2_with fail
    go_ret3
    exact ⟨A, c, rfl, HO3.out.lower hs1, HB1.out.drew.trans (HB3.out.mono hs1)⟩
  · have hr : b.look i = (Bg.none_, 4) := by unfold Bg.look; rw [if_neg hi]
    have hfind := find_no base q I b i w h hi
    rw [hr]
    have HF := Lib.hid hfind
    clear hfind hr hi h
    go_enter Try.func12, Try.ntmps12
    go_wp2_with fail
    refine HF.out.mono ?_
    rintro e w1 ⟨rfl, hb1⟩
    have HB1 := Lib.hid hb1
    clear hb1 HF
    go_wp2_with fail
    go_ret3
    exact ⟨none, 0, rfl, Own.nil _ _, HB1.out⟩
theorem blook_any (base q : Nat) (G : Nat → Prop) (b : Bg) (i : Int) (w : World) (h : BagAt w base q G b) :
    Calls Try.prog 12 #[.pointer (some ⟨q, 0, none⟩), .int .i64 i] w fun e w' => ∃ A c, e = .returned (.tuple #[.int .i64 (b.look i).1.to, .slice A (b.look i).1.text.length c, .int .i64 (b.look i).2]) ∧ RdBG w' w'.heap.size (Else w G) (.slice A (b.look i).1.text.length c) (b.look i).1.text ∧ Below w.heap.size w w' := by
  obtain ⟨I, h, _⟩ := h
  refine (look_ok base q I b i w h).mono ?_
  rintro e w' ⟨A, c, he, ho, hb⟩
  exact ⟨A, c, he, ho.rdNew (fun i hi => hi.2), hb⟩
set_option maxHeartbeats 2000000 in
set_option maxRecDepth 100000 in
theorem bnone_look (i : Int) (w : World) : Calls Try.prog 12 #[.pointer none, .int .i64 i] w fun e w' => ∃ A c, e = .returned (.tuple #[.int .i64 0, .slice A 0 c, .int .i64 1]) ∧ Below w.heap.size w w' := by
  have HF := Lib.hid (find_nil i w)
  go_enter Try.func12, Try.ntmps12
  go_wp2_with fail
  refine HF.out.mono ?_
  rintro e w1 ⟨rfl, hb1⟩
  have HB1 := Lib.hid hb1
  clear hb1 HF
  go_wp2_with fail
  go_ret3
  exact ⟨none, 0, rfl, HB1.out⟩
set_option maxHeartbeats 2000000 in
set_option maxRecDepth 100000 in
theorem bnone_take (i : Int) (w : World) : Calls Try.prog 14 #[.pointer none, .int .i64 i] w fun e w' => ∃ A c, e = .returned (.tuple #[.int .i64 0, .slice A 0 c, .int .i64 1]) ∧ Below w.heap.size w w' := by
  have HF := Lib.hid (bnone_look i w)
  go_enter Try.func14, Try.ntmps14
  go_wp2_with fail
  refine HF.out.mono ?_
  rintro e w1 ⟨A, c, rfl, hb1⟩
  have HB1 := Lib.hid hb1
  clear hb1 HF
  go_wp2_with fail
  go_ret3
  exact ⟨A, c, rfl, HB1.out⟩
set_option maxHeartbeats 2000000 in
set_option maxRecDepth 100000 in
theorem bnone_twin (i : Int) (w : World) : Calls Try.prog 16 #[.pointer none, .int .i64 i] w fun e w' => e = .returned (.int .i64 1) ∧ Below w.heap.size w w' := by
  have HF := Lib.hid (find_nil i w)
  go_enter Try.func16, Try.ntmps16
  go_wp2_with fail
  refine HF.out.mono ?_
  rintro e w1 ⟨rfl, hb1⟩
  have HB1 := Lib.hid hb1
  clear hb1 HF
  go_wp2_with fail
  go_ret
  exact ⟨rfl, HB1.out⟩
set_option maxHeartbeats 2000000 in
set_option maxRecDepth 100000 in
theorem bnone_spoil (i at_ : Int) (x : Value) (w : World) : Calls Try.prog 18 #[.pointer none, .int .i64 i, .int .i64 at_, x] w fun e w' => e = .returned (.int .i64 1) ∧ Below w.heap.size w w' := by
  have HF := Lib.hid (find_nil i w)
  go_enter Try.func18, Try.ntmps18
  go_wp2_with fail
  refine HF.out.mono ?_
  rintro e w1 ⟨rfl, hb1⟩
  have HB1 := Lib.hid hb1
  clear hb1 HF
  go_wp2_with fail
  go_ret
  exact ⟨rfl, HB1.out⟩
set_option maxHeartbeats 2000000 in
set_option maxRecDepth 100000 in
theorem bnone_send (to v : Value) (w : World) : Calls Try.prog 10 #[.pointer none, to, v] w fun e w' => e = .returned (.int .i64 1) ∧ Below w.heap.size w w' := by
  go_enter Try.func10, Try.ntmps10
  go_wp2_with fail
  go_ret
  exact ⟨rfl, Below.refl _ _⟩
set_option maxHeartbeats 2000000 in
set_option maxRecDepth 100000 in
theorem bnone_len (w : World) : Calls Try.prog 20 #[.pointer none] w fun e w' => e = .returned (.int .i64 0) ∧ Below w.heap.size w w' := by
  go_enter Try.func20, Try.ntmps20
  go_wp2_with fail
  go_ret
  exact ⟨rfl, Below.refl _ _⟩
end Go.Proofs.Ytjkhdlmdgdcimaa
