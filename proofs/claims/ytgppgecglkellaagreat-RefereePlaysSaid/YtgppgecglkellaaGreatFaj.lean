/- What is left of a span without others: what span.Without answers. A region with a store in its midst, which waits for some of its operations and writes what these have read: an order laid down beforehand, as in PlanF; what the store does not wait for must yield the same behind it. -/
import Derived.Test.YtgppgecglkellaaGreatFai
import Derived.Test.YtgppgecglkellaaGreatFab
namespace Go.Proofs.YtgppgecglkellaaGreat
open Go.RowKit
attribute [local go_sem] less_eq same_eq le_eq ge_eq gt_eq

/-- between two worlds only blocks of S, and new ones, have turned -/
structure Keep (S : Nat → Prop) (a b : World) : Prop where
  os : b.os = a.os
  tape : b.tape = a.tape
  output : b.output = a.output
  size : a.heap.size ≤ b.heap.size
  block : ∀ k, k < a.heap.size → ¬ S k → b.heap[k]? = a.heap[k]?
section
variable {S : Nat → Prop} {a w w' : World}
theorem Keep.refl (S : Nat → Prop) (a : World) : Keep S a a := ⟨rfl, rfl, rfl, Nat.le_refl _, fun _ _ _ => rfl⟩
theorem Keep.grown {row : Option Nat} (h : Keep S a w) (g : w.grownBy w' row) (hr : ∀ k, row = some k → a.heap.size ≤ k ∨ S k) : Keep S a w' :=
  ⟨g.os.trans h.os, g.tape.trans h.tape, g.output.trans h.output, Nat.le_trans h.size g.size, fun k hk hn => by
    rw [g.block k (Nat.lt_of_lt_of_le hk h.size) (fun e => by
      rcases hr k e.symm with h1 | h1
      · omega
      · exact hn h1)]
    exact h.block k hk hn⟩
theorem Keep.alloc (h : Keep S a w) (o : Obj) : Keep S a (w.alloc o) := h.grown (World.grownBy_alloc w o none) (fun k hk => by cases hk)
theorem Keep.drewN (h : Keep S a w) (n : Nat) : Keep S a (w.drewN n) := ⟨h.os, h.tape, h.output, h.size, h.block⟩
theorem Keep.set (h : Keep S a w) {g : Nat} (hg : S g ∨ a.heap.size ≤ g) (j : Nat) (u : Value) : Keep S a (w.setCell ⟨g, j, none⟩ u) :=
  ⟨h.os, h.tape, h.output, by simpa [World.setCell] using h.size, fun k hk hn => (Below.heap_setCell w _ u k (fun e => by
    simp only at e
    rcases hg with h1 | h1
    · exact hn (e ▸ h1)
    · omega)).trans (h.block k hk hn)⟩
theorem Keep.below {B : Nat} (h : Keep S a w) (g : Below B w w') (hB : a.heap.size ≤ B) : Keep S a w' :=
  ⟨g.os.trans h.os, g.tape.trans h.tape, g.output.trans h.output, Nat.le_trans h.size g.size, fun k hk hn => (g.block k (Nat.lt_of_lt_of_le hk hB)).trans (h.block k hk hn)⟩
theorem Keep.toBelow {B : Nat} {z : World} (h : Keep S a w) (hz : Below B z a) (hB : B ≤ z.heap.size) (hS : ∀ k, S k → B ≤ k) : Below B z w :=
  ⟨h.os.trans hz.os, h.tape.trans hz.tape, h.output.trans hz.output, Nat.le_trans hz.size h.size, fun k hk => (h.block k (Nat.lt_of_lt_of_le hk (Nat.le_trans hB hz.size)) (fun hs => by have := hS k hs; omega)).trans (hz.block k hk)⟩
end

theorem cells_of_two {w : World} {b : Nat} {u v : Value} {t : TypeId} (h : w.heap[b]? = some (.cells #[u, v] t (0, 0))) : w.cell? ⟨b, 0, none⟩ = some u ∧ w.cell? ⟨b, 1, none⟩ = some v := by simp [World.cell?, h]

set_option maxHeartbeats 1000000 in
set_option maxRecDepth 100000 in
theorem keep_any (S : Nat → Prop) (w0 w : World) (ob fb sb : Nat) (v : Value) (f t : K) (s : K × K) (out : List (K × K)) (hw : Keep S w0 w) (hob : w.heap[ob]? = some (.cells #[v] 44 (0, 0)))
    (hfb : w.heap[fb]? = some (.cells #[.string f] 9 (0, 0))) (hsb : w.heap[sb]? = some (.cells #[.string s.1, .string s.2] 52 (0, 0))) (ho : OwnS w w0.heap.size v out) (hS : S ob)
    (h1 : ob < w0.heap.size) (h2 : fb < w0.heap.size) (h3 : sb < w0.heap.size) (hf : fb ≠ ob) (hs : sb ≠ ob) (hl : out.length ≤ 3999990) :
    Calls Tryz.prog 67 #[.string t, .pointer (some ⟨fb, 0, none⟩), .pointer (some ⟨sb, 0, none⟩), .pointer (some ⟨ob, 0, none⟩)] w fun e w' => e = .returned (.tuple #[]) ∧ ∃ v', w'.heap[ob]? = some (.cells #[v'] 44 (0, 0)) ∧
      w'.heap[fb]? = some (.cells #[.string f] 9 (0, 0)) ∧ w'.heap[sb]? = some (.cells #[.string s.1, .string s.2] 52 (0, 0)) ∧ OwnS w' w0.heap.size v' (out ++ piece f (mn t s.2)) ∧ Keep S w0 w' ∧ ∀ k, k < w.heap.size → k ≠ ob → some k ≠ v.ownBlock → w'.heap[k]? = w.heap[k]? := by
  have hv : ∃ A c, v = .slice A out.length c := by obtain ⟨A, c, h, _⟩ := ho.read; exact ⟨A, c, h⟩
  obtain ⟨A, c, rfl⟩ := hv
  have c1 := cell_of_one hob
  have c2 := cell_of_one hfb
  obtain ⟨c3, c4⟩ := cells_of_two hsb
  have f1 := free_of_one hob
  have l1 := lt_of_block hob
  have hmin := fun (w : World) (ts : Array TypeId) (t : TypeId) (x y : ByteArray) => (Lib.run_min_strs (P := Tryz.prog) w ts t x y)
  simp only [minS_eq] at hmin
  have HO := Lib.hid ho; clear ho
  have HX := Lib.hid hob; clear hob
  have HF := Lib.hid hfb; clear hfb
  have HS := Lib.hid hsb; clear hsb
  have HW := Lib.hid hw; clear hw
  have hz := HW.out.size
  by_cases hx : f < mn t s.2
  · rw [piece, if_pos hx]
    go_enter Tryz.func67, Tryz.ntmps67
    go_wp2_with (first | (go_at_call 43; refine (empty_exact (f, mn t s.2) _).mono ?_; rintro e w1 ⟨rfl, rfl⟩) | (at_builtin; refine wpList_addS rfl _ _ rfl w0.heap.size (.slice A out.length c) out rfl ?c0 _ 1 [(f, mn t s.2)] rfl ?c1 ?c2 ?c3 ?_))
    case c0 => exact ((HO.out.alloc _).alloc _).alloc _
    case c1 => simpa using new_cells ((w.alloc (.cells #[.string f, .string (mn t s.2)] 52)).alloc (.cells #[.string f, .string (mn t s.2)] 52)) (f, mn t s.2) 52
    case c2 => simp; omega
    case c3 => simp; omega
    intro A' c' w1 ho1 hg1
    have hrow : ∀ k, (Value.slice A out.length c).ownBlock = some k → w0.heap.size ≤ k := fun k hk => (HO.out.lt k hk).1
    have hold : ∀ k, k < w0.heap.size → w1.heap[k]? = w.heap[k]? := fun k hk => by
      rw [hg1.block k (by simp; omega) (fun e => by have := hrow k e.symm; omega), Below.heap_alloc _ _ _ (by simp; omega), Below.heap_alloc _ _ _ (by simp; omega), Below.heap_alloc _ _ _ (by omega)]
    have hall : ∀ k, k < w.heap.size → some k ≠ (Value.slice A out.length c).ownBlock → w1.heap[k]? = w.heap[k]? := fun k hk hne => by
      rw [hg1.block k (by simp; omega) hne, Below.heap_alloc _ _ _ (by simp; omega), Below.heap_alloc _ _ _ (by simp; omega), Below.heap_alloc _ _ _ (by omega)]
    have HA := Lib.hid hall; clear hall
    have hb1 := (hold ob h1).trans HX.out
    have hb2 := (hold fb h2).trans HF.out
    have hb3 := (hold sb h3).trans HS.out
    have hk1 := (((HW.out.alloc (.cells #[.string f, .string (mn t s.2)] 52)).alloc (.cells #[.string f, .string (mn t s.2)] 52)).alloc (.cells #[.string f, .string (mn t s.2)] 52)).grown hg1 fun k hk => .inl (hrow k hk)
    have hc1 := cell_of_one hb1
    have hf1 := free_of_one hb1
    have HO1 := Lib.hid ho1; clear ho1
    have HB1 := Lib.hid hb1; clear hb1
    have HB2 := Lib.hid hb2; clear hb2
    have HB3 := Lib.hid hb3; clear hb3
    have HK1 := Lib.hid hk1; clear hk1
    clear c1 c2 c3 c4 f1 hold hrow hg1
    go_wp2_with fail
    go_end0
    refine ⟨rfl, _, one_setCell HB1.out, (Below.heap_setCell _ _ _ _ (by exact hf)).trans HB2.out, (Below.heap_setCell _ _ _ _ (by exact hs)).trans HB3.out, ?_, HK1.out.set (.inl hS) 0 _, fun k hk hne hne2 => (Below.heap_setCell _ _ _ _ (by exact hne)).trans (HA.out k hk hne2)⟩
    simpa using HO1.out.setOther h1 0 _
  · rw [piece, if_neg hx, List.append_nil]
    go_enter Tryz.func67, Tryz.ntmps67
    go_wp2_with (go_at_call 43; refine (empty_exact (f, mn t s.2) _).mono ?_; rintro e w1 ⟨rfl, rfl⟩)
    go_end0
    have hold : ∀ k (o o' : Obj), k < w0.heap.size → ((w.alloc o).alloc o').heap[k]? = w.heap[k]? := fun k o o' hk => by
      rw [Below.heap_alloc _ _ _ (by simp; omega), Below.heap_alloc _ _ _ (by omega)]
    exact ⟨rfl, _, (hold ob _ _ h1).trans HX.out, (hold fb _ _ h2).trans HF.out, (hold sb _ _ h3).trans HS.out, (HO.out.alloc _).alloc _, (HW.out.alloc _).alloc _, fun k hk _ _ => by rw [Below.heap_alloc _ _ _ (by simp; omega), Below.heap_alloc _ _ _ hk]⟩

theorem mn_self (a : K) : mn a a = a := by unfold mn; split <;> rfl
theorem piece_len (a b : K) : (piece a b).length ≤ 1 := by unfold piece; split <;> simp

set_option maxHeartbeats 1000000 in
set_option maxRecDepth 100000 in
theorem without_any (s : K × K) (l : List (K × K)) (v : Value) (w : World) (hv : RdS w w.heap.size v l) (hl : l.length ≤ 2000000) : Calls Tryz.prog 48 #[.agg #[.string s.1, .string s.2], v] w fun e w' =>
    ∃ v' R, e = .returned v' ∧ OwnS w' w.heap.size v' R ∧ Below w.heap.size w w' ∧ Normal R ∧ (∀ k, mem R k ↔ has s k ∧ ¬ mem l k) ∧ R.length ≤ 2000001 := by
  obtain ⟨A, c, rfl, hc⟩ : ∃ A c, v = .slice A l.length c ∧ l.length ≤ c := by obtain ⟨A, c, h1, h2, _⟩ := hv; exact ⟨A, c, h1, h2⟩
  have hr := fun W (hW : RdS W W.heap.size (.slice A l.length c) l) => join_any l (.slice A l.length c) W hW hl
  have HR := Lib.hid hr; clear hr
  have HV := Lib.hid hv; clear hv
  have hmax := fun (w : World) (ts : Array TypeId) (t : TypeId) (x y : ByteArray) => (Lib.run_max_strs (P := Tryz.prog) w ts t x y)
  simp only [maxS_eq] at hmax
  go_enter Tryz.func48, Tryz.ntmps48
  go_wp2_with fail
  have hb3 : Below w.heap.size w (((w.alloc (.cells #[.string s.1, .string s.2] 52)).alloc (.cells #[.slice none 0 0] 44)).alloc (.cells #[.string s.1] 9)) := (((Below.refl _ w).alloc (Nat.le_refl _) _).alloc (by simp) _).alloc (by simp; omega) _
  refine (HR.out _ ((HV.out.below hb3 (Nat.le_refl _)).mono (by simp; omega))).mono ?_
  rintro e w2 ⟨v', J, rfl, ho2, hb2, hn, hm, hJ⟩
  obtain ⟨A', c', rfl, hi⟩ := ho2.read
  have hz := hb2.size
  simp only [World.size_alloc] at hz
  have x1 : w2.heap[w.heap.size]? = some (.cells #[.string s.1, .string s.2] 52 (0, 0)) := by
    rw [hb2.block _ (by simp; omega), Below.heap_alloc _ _ _ (by simp; omega), Below.heap_alloc _ _ _ (by simp)]
    exact heap_alloc_new w _
  have x2 : w2.heap[w.heap.size + 1]? = some (.cells #[.slice none 0 0] 44 (0, 0)) := by
    rw [hb2.block _ (by simp), Below.heap_alloc _ _ _ (by simp)]
    have := heap_alloc_new (w.alloc (.cells #[.string s.1, .string s.2] 52)) (.cells #[.slice none 0 0] 44)
    simpa using this
  have x3 : w2.heap[w.heap.size + 1 + 1]? = some (.cells #[.string s.1] 9 (0, 0)) := by
    rw [hb2.block _ (by simp)]
    have := heap_alloc_new ((w.alloc (.cells #[.string s.1, .string s.2] 52)).alloc (.cells #[.slice none 0 0] 44)) (.cells #[.string s.1] 9)
    simpa using this
  have hbw : Below w.heap.size w w2 := hb3.trans (hb2.mono (by simp; omega))
  clear ho2 hb2 hb3
  have HI := Lib.hid hi; clear hi
  have X1 := Lib.hid x1; clear x1
  have X2 := Lib.hid x2; clear x2
  have X3 := Lib.hid x3; clear x3
  have HN := Lib.hid hn; clear hn
  have HM := Lib.hid hm; clear hm
  have HBW := Lib.hid hbw; clear hbw
  go_wp2_with fail
  go_loopw [16] (fun i wr => ∃ (j : Nat) (ov : Value) (f : K) (out : List (K × K)), j ≤ J.length ∧ i = .int .i64 j ∧ Keep (fun k => k = w.heap.size + 1 ∨ k = w.heap.size + 1 + 1) w2 wr ∧
    wr.heap[w.heap.size]? = some (.cells #[.string s.1, .string s.2] 52 (0, 0)) ∧ wr.heap[w.heap.size + 1]? = some (.cells #[ov] 44 (0, 0)) ∧ wr.heap[w.heap.size + 1 + 1]? = some (.cells #[.string f] 9 (0, 0)) ∧
    OwnS wr w2.heap.size ov out ∧ left J s.1 s.2 = out ++ left (J.drop j) f s.2 ∧ out.length ≤ j) (fun i _ => J.length - (intOf i).toNat)
  case atStart => exact ⟨0, _, s.1, [], Nat.zero_le _, rfl, Keep.refl _ _, X1.out, X2.out, X3.out, OwnS.nil _ _, rfl, Nat.le_refl _⟩
  case round =>
    obtain ⟨j, ov, f, out, hj, rfl, hk, b1, b2, b3, ho, he, hlen⟩ := hrel
    have hkeep := fun W t h1 h2 h3 h4 h5 => keep_any (fun k => k = w.heap.size + 1 ∨ k = w.heap.size + 1 + 1) w2 W (w.heap.size + 1) (w.heap.size + 1 + 1) w.heap.size ov f t s out h1 h2 h3 h4 h5 (.inl rfl) (by omega) (by omega) (by omega) (by omega) (by omega) (by omega)
    have HC := Lib.hid hkeep; clear hkeep
    by_cases hlt : j < J.length
    · obtain ⟨g, rfl, hg1, hg2, h1, h2⟩ := HI.out j hlt
      have hgs : wr.heap[g]? = w2.heap[g]? := hk.block g hg2 (by simp only [World.size_alloc] at hg1; omega)
      have g1 := (World.cell?_of_block (a := ⟨g, j * 2, none⟩) hgs).trans h1
      have g2 := (World.cell?_of_block (a := ⟨g, j * 2 + 1, none⟩) hgs).trans h2
      have hd : J.drop j = J[j] :: J.drop (j + 1) := List.drop_eq_getElem_cons hlt
      have HD := Lib.hid hd; clear hd
      clear h1 h2 hgs
      have HE := Lib.hid he; clear he
      have B1 := Lib.hid b1; clear b1
      have B2 := Lib.hid b2; clear b2
      have B3 := Lib.hid b3; clear b3
      have HO := Lib.hid ho; clear ho
      have HK := Lib.hid hk; clear hk
      go_wp2_with fail
      have q1 : (wr.alloc (.cells #[.string J[j].1, .string J[j].2] 52)).heap[w.heap.size]? = _ := (Below.heap_alloc _ _ _ (lt_of_block B1.out)).trans B1.out
      have q2 : (wr.alloc (.cells #[.string J[j].1, .string J[j].2] 52)).heap[w.heap.size + 1]? = _ := (Below.heap_alloc _ _ _ (lt_of_block B2.out)).trans B2.out
      have q3 : (wr.alloc (.cells #[.string J[j].1, .string J[j].2] 52)).heap[w.heap.size + 1 + 1]? = _ := (Below.heap_alloc _ _ _ (lt_of_block B3.out)).trans B3.out
      refine (HC.out _ J[j].1 (HK.out.alloc _) q2 q3 q1 (HO.out.alloc _)).mono ?_
      clear q1 q2 q3
      rintro e w3 ⟨rfl, ov', r2, r3, r1, ro, rk, ra⟩
      have r4 : w3.heap[wr.heap.size]? = some (.cells #[.string J[j].1, .string J[j].2] 52 (0, 0)) := by
        rw [ra _ (by simp) (by have := lt_of_block B2.out; omega) (fun e => by have := (HO.out.lt _ e.symm).2; omega)]
        exact heap_alloc_new wr _
      have c3 := cell_of_one r3
      have f3 := free_of_one r3
      have c4 := (cells_of_two r4).2
      have R1 := Lib.hid r1; clear r1
      have R2 := Lib.hid r2; clear r2
      have R3 := Lib.hid r3; clear r3
      have RO := Lib.hid ro; clear ro
      have RK := Lib.hid rk; clear rk
      clear r4 ra
      go_wp2_with fail
      go_roundw
      case rel =>
        refine ⟨j + 1, ov', mx f J[j].2, out ++ piece f (mn J[j].1 s.2), by omega, by go_num, RK.out.set (.inl (.inr rfl)) 0 _, (Below.heap_setCell _ _ _ _ (by simp; omega)).trans R1.out, (Below.heap_setCell _ _ _ _ (by simp)).trans R2.out, one_setCell R3.out, RO.out.setOther (by omega) 0 _, ?_, ?_⟩
        · rw [HE.out, HD.out, left, List.append_assoc]
        · rw [List.length_append]
          have := piece_len f (mn J[j].1 s.2)
          omega
      case measure => simp [intOf]; omega
    · obtain rfl : j = J.length := by omega
      have c1 := (cells_of_two b1).2
      have HE := Lib.hid he; clear he
      have B1 := Lib.hid b1; clear b1
      have B2 := Lib.hid b2; clear b2
      have B3 := Lib.hid b3; clear b3
      have HO := Lib.hid ho; clear ho
      have HK := Lib.hid hk; clear hk
      go_wp2_with fail
      refine (HC.out _ s.2 HK.out B2.out B3.out B1.out HO.out).mono ?_
      rintro e w3 ⟨rfl, ov', r2, r3, r1, ro, rk, ra⟩
      have c2 := cell_of_one r2
      have RO := Lib.hid ro; clear ro
      have RK := Lib.hid rk; clear rk
      clear r1 r2 r3 ra c1
      go_wp2_with fail
      have hfin : left J s.1 s.2 = out ++ piece f (mn s.2 s.2) := by rw [HE.out, List.drop_length, left, mn_self]
      obtain ⟨n1, n2⟩ := left_ok J s.1 s.2 HN.out
      rw [hfin] at n1 n2
      refine bodyPost_ret (v := ov') ?_ rfl ⟨_, _, rfl, RO.out.lower (by omega), RK.out.toBelow HBW.out (Nat.le_refl _) (by rintro k (rfl | rfl) <;> omega), n1, fun k => ?_, ?_⟩
      · simp [results, Tryz.results48, go_sem]
      · rw [n2 k, HM.out k]; rfl
      · rw [List.length_append]
        have := piece_len f (mn s.2 s.2)
        omega
end Go.Proofs.YtgppgecglkellaaGreat
namespace Go.Proofs.YtgppgecglkellaaGreat
open Go.RowKit
section
variable {P : Program} {ops : Array Oper} {Q : Exit → Act → World → Prop} {S S2 : World → Prop} {f : Nat}

/-- S holds as long as f has not come up, S2 always -/
def TwoT (S S2 : World → Prop) (f : Nat) (L : Array Bool) (w : World) : Prop := (L.getD f true = false → S w) ∧ S2 w
def RestG (P : Program) (ops : Array Oper) (Q : Exit → Act → World → Prop) (S S2 : World → Prop) (f : Nat) : Nat → Array Bool → Act → World → Prop
  | 0, L, a, w => Region.ready .any ops L = [] ∧ Q .normal a w
  | n + 1, L, a, w => (Region.ready .any ops L = [] → Q .normal a w) ∧ ∀ i ∈ Region.ready .any ops L, wpOp P ops Q i (fun a' w' => TwoT S S2 f (L.setIfInBounds i true) w' ∧ RestG P ops Q S S2 f n (L.setIfInBounds i true) a' w') a w
theorem RestG.plain : ∀ (n : Nat) (L : Array Bool) (a : Act) (w : World), RestG P ops Q S S2 f n L a w → wpAny P .any ops Q n L a w
  | 0, _, _, _, h => h
  | n + 1, _, _, _, h => ⟨h.1, fun i hi => wpOp_mono (fun a' w' h' => RestG.plain n _ a' w' h'.2) (h.2 i hi)⟩
/-- f waits for number i -/
def waitsG (ops : Array Oper) (f i : Nat) : Bool := ((ops[f]?).map fun o => o.after.any fun e => Region.binds .any e && e.on == i).getD false
theorem waitsG.of {i : Nat} (h1 : waitsG ops f i = true) : ∃ o, ops[f]? = some o ∧ ∃ e ∈ o.after, Region.binds .any e = true ∧ e.on = i := by
  unfold waitsG at h1
  cases ho : ops[f]? with
  | none => rw [ho] at h1; simp at h1
  | some o =>
    rw [ho] at h1
    simp only [Option.map_some, Option.getD_some] at h1
    obtain ⟨e, he, hb⟩ := Array.any_eq_true'.1 h1
    simp only [Bool.and_eq_true, beq_iff_eq] at hb
    exact ⟨o, rfl, e, he, hb.1, hb.2⟩
theorem TwoT.other {i : Nat} (hif : i ≠ f) {L : Array Bool} {w : World} (h : TwoT S S2 f L w) : TwoT S S2 f (L.setIfInBounds i true) w :=
  ⟨fun h' => h.1 (by rwa [getD_set_ne true hif] at h'), h.2⟩
theorem TwoT.back {i j : Nat} (hif : i ≠ f) {L : Array Bool} {w : World} (h : TwoT S S2 f ((L.setIfInBounds i true).setIfInBounds j true) w) : TwoT S S2 f (L.setIfInBounds j true) w := by
  by_cases hij : j = i
  · subst hij
    refine ⟨fun h' => h.1 ?_, h.2⟩
    rw [getD_set_ne true hif] at h' ⊢
    rw [getD_set_ne true hif]
    exact h'
  · rw [Array.setIfInBounds_comm _ _ (Ne.symm hij)] at h
    exact ⟨fun h' => h.1 (by rw [getD_set_ne true hif]; exact h'), h.2⟩

/-- what f waits for -/
theorem RestG.early {i : Nat} {oi : Oper} {v : Value} (hi : ops[i]? = some oi) (hs : Region.noSelect ops = true) (hf : waitsG ops f i = true) (hif : i ≠ f)
    (hQ : ∀ c a w, Q (.panic c) (a.put oi.dst v) w → Q (.panic c) a w) : ∀ (n : Nat) (L : Array Bool) (a : Act) (w : World), Region.free .any ops L i = true → i ∈ Region.ready .any ops L → L.getD f true = false → YieldsIf P ops S oi v a → TwoT S S2 f L w →
      RestG P ops Q S S2 f n (L.setIfInBounds i true) (a.put oi.dst v) w → RestG P ops Q S S2 f (n + 1) L a w := by
  have go : ∀ (n : Nat) (L : Array Bool) (a : Act) (w : World), (∀ j oj, ops[j]? = some oj → j ≠ i → L.getD j true = false → (∀ e ∈ oj.after, Region.binds .any e = true → e.on ≠ i) → oi.apart ops oj = true) →
      i ∈ Region.ready .any ops L → L.getD f true = false → YieldsIf P ops S oi v a → TwoT S S2 f L w → RestG P ops Q S S2 f n (L.setIfInBounds i true) (a.put oi.dst v) w → RestG P ops Q S S2 f (n + 1) L a w := by
    intro n
    induction n with
    | zero =>
      intro L a w _ hr hLf hy hS H
      refine ⟨fun h0 => by (rw [h0] at hr; simp at hr), fun j hj => ?_⟩
      by_cases hji : j = i
      · rw [hji]
        exact hy.wpOp hi (hS.1 hLf) ⟨hS.other hif, H⟩
      · have := ready_mono hj hji
        rw [H.1] at this
        simp at this
    | succ n ih =>
      intro L a w hfr hr hLf hy hS H
      refine ⟨fun h0 => by (rw [h0] at hr; simp at hr), fun j hj => ?_⟩
      by_cases hji : j = i
      · rw [hji]
        exact hy.wpOp hi (hS.1 hLf) ⟨hS.other hif, H⟩
      · obtain ⟨hun, oj, hoj, hall⟩ := mem_ready.1 hj
        have hi0 := (mem_ready.1 hr).1
        have hno : ∀ e ∈ oj.after, Region.binds .any e = true → e.on ≠ i := fun e he hb heq => by
          have h1 := hall e he hb
          rw [heq] at h1
          by_cases hL : i < L.size
          · simp [hL] at hi0 h1; rw [hi0] at h1; cases h1
          · simp [Array.getElem?_eq_none (Nat.le_of_not_lt hL)] at h1
        have hjf : j ≠ f := fun e => by
          subst e
          obtain ⟨o, ho, e, he, hb, hon⟩ := waitsG.of hf
          rw [hoj] at ho
          cases ho
          exact hno e he hb hon
        have h2 := wpOp_putIf hoj (hfr j oj hoj hji hun hno) (fun cs b => Region.noSelect_spec hs i oi cs b hi) (fun cs b => Region.noSelect_spec hs j oj cs b hoj) hQ hy (H.2 j (ready_mono hj hji))
        refine wpOp_mono (fun a' w' h3 => ?_) h2
        obtain ⟨hy', hT, H'⟩ := h3
        have hT' := hT.back hif
        refine ⟨hT', ih _ a' w' (fun k ok hk hki hku hkn => hfr k ok hk hki ?_ hkn) (ready_mono hr (Ne.symm hji)) (by rw [getD_set_ne true hjf]; exact hLf) hy' hT' ?_⟩
        · by_cases hjk : j = k
          · subst hjk; exact hun
          · rwa [getD_set_ne true hjk] at hku
        · rw [Array.setIfInBounds_comm _ _ hji]
          exact H'
  intro n L a w hfree hr hLf hy hS H
  exact go n L a w (Region.free_spec hi hfree) hr hLf hy hS H
/-- what it does not wait for -/
theorem RestG.early2 {i : Nat} {oi : Oper} {v : Value} (hi : ops[i]? = some oi) (hs : Region.noSelect ops = true) (hif : i ≠ f)
    (hQ : ∀ c a w, Q (.panic c) (a.put oi.dst v) w → Q (.panic c) a w) : ∀ (n : Nat) (L : Array Bool) (a : Act) (w : World), Region.free .any ops L i = true → i ∈ Region.ready .any ops L → YieldsIf P ops S2 oi v a → TwoT S S2 f L w →
      RestG P ops Q S S2 f n (L.setIfInBounds i true) (a.put oi.dst v) w → RestG P ops Q S S2 f (n + 1) L a w := by
  have go : ∀ (n : Nat) (L : Array Bool) (a : Act) (w : World), (∀ j oj, ops[j]? = some oj → j ≠ i → L.getD j true = false → (∀ e ∈ oj.after, Region.binds .any e = true → e.on ≠ i) → oi.apart ops oj = true) →
      i ∈ Region.ready .any ops L → YieldsIf P ops S2 oi v a → TwoT S S2 f L w → RestG P ops Q S S2 f n (L.setIfInBounds i true) (a.put oi.dst v) w → RestG P ops Q S S2 f (n + 1) L a w := by
    intro n
    induction n with
    | zero =>
      intro L a w _ hr hy hS H
      refine ⟨fun h0 => by (rw [h0] at hr; simp at hr), fun j hj => ?_⟩
      by_cases hji : j = i
      · rw [hji]
        exact hy.wpOp hi hS.2 ⟨hS.other hif, H⟩
      · have := ready_mono hj hji
        rw [H.1] at this
        simp at this
    | succ n ih =>
      intro L a w hfr hr hy hS H
      refine ⟨fun h0 => by (rw [h0] at hr; simp at hr), fun j hj => ?_⟩
      by_cases hji : j = i
      · rw [hji]
        exact hy.wpOp hi hS.2 ⟨hS.other hif, H⟩
      · obtain ⟨hun, oj, hoj, hall⟩ := mem_ready.1 hj
        have hi0 := (mem_ready.1 hr).1
        have hno : ∀ e ∈ oj.after, Region.binds .any e = true → e.on ≠ i := fun e he hb heq => by
          have h1 := hall e he hb
          rw [heq] at h1
          by_cases hL : i < L.size
          · simp [hL] at hi0 h1; rw [hi0] at h1; cases h1
          · simp [Array.getElem?_eq_none (Nat.le_of_not_lt hL)] at h1
        have h2 := wpOp_putIf hoj (hfr j oj hoj hji hun hno) (fun cs b => Region.noSelect_spec hs i oi cs b hi) (fun cs b => Region.noSelect_spec hs j oj cs b hoj) hQ hy (H.2 j (ready_mono hj hji))
        refine wpOp_mono (fun a' w' h3 => ?_) h2
        obtain ⟨hy', hT, H'⟩ := h3
        have hT' := hT.back hif
        refine ⟨hT', ih _ a' w' (fun k ok hk hki hku hkn => hfr k ok hk hki ?_ hkn) (ready_mono hr (Ne.symm hji)) hy' hT' ?_⟩
        · by_cases hjk : j = k
          · subst hjk; exact hun
          · rwa [getD_set_ne true hjk] at hku
        · rw [Array.setIfInBounds_comm _ _ hji]
          exact H'
  intro n L a w hfree hr hy hS H
  exact go n L a w (Region.free_spec hi hfree) hr hy hS H

/-- 0: taken, f waits for it; 1: taken; 2: comes up alone, f or behind it -/
def planOkG (ops : Array Oper) (f : Nat) : List (Nat × Nat) → Array Bool → Bool
  | [], L => (Region.ready .any ops L).isEmpty
  | (0, i) :: r, L => waitsG ops f i && (i != f) && !(L.getD f true) && Region.free .any ops L i && (Region.ready .any ops L).contains i && planOkG ops f r (L.setIfInBounds i true)
  | (1, i) :: r, L => (i != f) && Region.free .any ops L i && (Region.ready .any ops L).contains i && planOkG ops f r (L.setIfInBounds i true)
  | (_, i) :: r, L => Region.ready .any ops L == [i] && ((L.setIfInBounds i true).getD f true) && planOkG ops f r (L.setIfInBounds i true)
def PlanG (P : Program) (ops : Array Oper) (S S2 : World → Prop) (f : Nat) (Q : Exit → Act → World → Prop) : List (Nat × Nat) → Act → World → Prop
  | [], a, w => Q .normal a w
  | (0, i) :: r, a, w => ∃ o v, ops[i]? = some o ∧ YieldsIf P ops S o v a ∧ PlanG P ops S S2 f Q r (a.put o.dst v) w
  | (1, i) :: r, a, w => ∃ o v, ops[i]? = some o ∧ YieldsIf P ops S2 o v a ∧ PlanG P ops S S2 f Q r (a.put o.dst v) w
  | (_, i) :: r, a, w => wpOp P ops Q i (fun a' w' => S2 w' ∧ PlanG P ops S S2 f Q r a' w') a w
theorem PlanG.any (hs : Region.noSelect ops = true) (hQ : ∀ c a d v w, Q (.panic c) (Act.put a d v) w → Q (.panic c) a w) : ∀ (plan : List (Nat × Nat)) (n : Nat) (L : Array Bool) (a : Act) (w : World),
    plan.length ≤ n → planOkG ops f plan L = true → TwoT S S2 f L w → PlanG P ops S S2 f Q plan a w → RestG P ops Q S S2 f n L a w
  | [], n, L, a, w, _, hp, _, h => by
    have hr : Region.ready .any ops L = [] := by simpa [planOkG] using hp
    cases n with
    | zero => exact ⟨hr, h⟩
    | succ n => exact ⟨fun _ => h, by rw [hr]; simp⟩
  | (0, i) :: r, n + 1, L, a, w, hn, hp, hS, h => by
    obtain ⟨o, v, ho, hy, hr⟩ := h
    simp only [planOkG, Bool.and_eq_true, Bool.not_eq_true', bne_iff_ne] at hp
    obtain ⟨⟨⟨⟨⟨h1, h2⟩, h3⟩, h4⟩, h5⟩, h6⟩ := hp
    exact RestG.early ho hs h1 h2 (fun c a w => hQ c a _ _ w) n L a w h4 (by simpa using h5) h3 hy hS (PlanG.any hs hQ r n _ _ _ (by simpa using hn) h6 (hS.other h2) hr)
  | (1, i) :: r, n + 1, L, a, w, hn, hp, hS, h => by
    obtain ⟨o, v, ho, hy, hr⟩ := h
    simp only [planOkG, Bool.and_eq_true, bne_iff_ne] at hp
    obtain ⟨⟨⟨h2, h4⟩, h5⟩, h6⟩ := hp
    exact RestG.early2 ho hs h2 (fun c a w => hQ c a _ _ w) n L a w h4 (by simpa using h5) hy hS (PlanG.any hs hQ r n _ _ _ (by simpa using hn) h6 (hS.other h2) hr)
  | (k + 2, i) :: r, n + 1, L, a, w, hn, hp, _, h => by
    simp only [planOkG, Bool.and_eq_true, beq_iff_eq] at hp
    obtain ⟨⟨h1, h2⟩, h3⟩ := hp
    refine ⟨fun h0 => by rw [h1] at h0; simp at h0, fun j hj => ?_⟩
    rw [h1] at hj
    obtain rfl : j = i := by simpa using hj
    refine wpOp_mono (fun a' w' h' => ?_) h
    have hT : TwoT S S2 f (L.setIfInBounds j true) w' := ⟨fun e => (by rw [h2] at e; cases e), h'.1⟩
    exact ⟨hT, PlanG.any hs hQ r n _ _ _ (by simpa using hn) h3 hT h'.2⟩
  | _ :: _, 0, _, _, _, hn, _, _, _ => by simp at hn

theorem wp_region_planG (S S2 : World → Prop) (f : Nat) (plan : List (Nat × Nat)) {id : Nat} {a : Act} {w : World} (hm : P.follows .mixedOrders = true) (hs : (Region.noSelect ops && planOkG ops f plan (Array.replicate ops.size false) && decide (plan.length ≤ ops.size)) = true)
    (hQ : ∀ c a d v w, Q (.panic c) (Act.put a d v) w → Q (.panic c) a w) (hS : S w.drew) (hS2 : S2 w.drew) (h : PlanG P ops S S2 f Q plan a w.drew) : (Code.region id ops true).wp P Q a w := by
  simp only [Bool.and_eq_true, decide_eq_true_eq] at hs
  exact wp_region_any hm (RestG.plain _ _ _ _ (PlanG.any hs.1.1 hQ plan _ _ _ _ hs.2 hs.1.2 ⟨fun _ => hS, hS2⟩ h))

theorem PlanG.take {i : Nat} {o : Oper} {v : Value} {r : List (Nat × Nat)} {a : Act} {w : World} (hi : ops.toList[i]? = some o) (hw : Region.wanted o (yielded ops a.tmps) = true)
    (hy : ∀ W, S W → (execOp a.eval o).run P W = .ok (.value v) W) (h : PlanG P ops S S2 f Q r (a.put o.dst v) w) : PlanG P ops S S2 f Q ((0, i) :: r) a w :=
  ⟨o, v, by simpa using hi, .inl ⟨hw, hy⟩, h⟩
theorem PlanG.take2 {i : Nat} {o : Oper} {v : Value} {r : List (Nat × Nat)} {a : Act} {w : World} (hi : ops.toList[i]? = some o) (hw : Region.wanted o (yielded ops a.tmps) = true)
    (hy : ∀ W, S2 W → (execOp a.eval o).run P W = .ok (.value v) W) (h : PlanG P ops S S2 f Q r (a.put o.dst v) w) : PlanG P ops S S2 f Q ((1, i) :: r) a w :=
  ⟨o, v, by simpa using hi, .inl ⟨hw, hy⟩, h⟩
theorem PlanG.step {i : Nat} {o : Oper} {r : List (Nat × Nat)} {a : Act} {w : World} (hi : ops.toList[i]? = some o) (hw : Region.wanted o (yielded ops a.tmps) = true)
    (h : ∀ K : Act → World → Prop, Shut (∀ a w, S2 w → PlanG P ops S S2 f Q r a w → K a w) → Oper.wp P o a w K Q) : PlanG P ops S S2 f Q ((2, i) :: r) a w := by
  show wpOp P ops Q i _ a w
  refine wpOp_step (o := o) (by simpa using hi) fun K' hK => ?_
  rw [if_pos hw]
  exact h K' fun a w h1 h2 => hK a w ⟨h1, h2⟩
end
end Go.Proofs.YtgppgecglkellaaGreat
