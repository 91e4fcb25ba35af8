/- What is left of a span without others: what span.Without answers. A region with a store in its midst, which waits for some of its operations and writes what these have read: an order laid down beforehand, as in PlanF; what the store does not wait for must yield the same behind it. The program's write: one span is written. The bits of numbers as plain arithmetic. -/
import Derived.Test.YtcmpbhcldaogiaaFad
import Derived.Test.YtcmpbhcldaogiaaFaa
import Derived.Test.YtcmpbhcldaogiaaFac
import Derived.Deep.CutBlock
import Derived.Deep.DeepCutAuto
import Derived.Deep.Cut
import Derived.Deep.CutRange
import Derived.Lib.EndianBits
namespace Go.Proofs.Ytcmpbhcldaogiaa
open Go.RowKit
attribute [local go_sem] less_eq same_eq le_eq ge_eq gt_eq

/-- between two worlds only blocks of S, and new ones, have turned -/
structure Keep (S : Nat → Prop) (a b : World) : Prop where
  os : b.os = a.os
  tape : b.tape = a.tape
  output : b.output = a.output
  size : a.heap.size ≤ b.heap.size
  block : ∀ k, k < a.heap.size → ¬ S k → b.heap[k]? = a.heap[k]?
section
variable {S : Nat → Prop} {a w w' : World}
theorem Keep.refl (S : Nat → Prop) (a : World) : Keep S a a := ⟨rfl, rfl, rfl, Nat.le_refl _, fun _ _ _ => rfl⟩
theorem Keep.grown {row : Option Nat} (h : Keep S a w) (g : w.grownBy w' row) (hr : ∀ k, row = some k → a.heap.size ≤ k ∨ S k) : Keep S a w' :=
  ⟨g.os.trans h.os, g.tape.trans h.tape, g.output.trans h.output, Nat.le_trans h.size g.size, fun k hk hn => by
    rw [g.block k (Nat.lt_of_lt_of_le hk h.size) (fun e => by
      rcases hr k e.symm with h1 | h1
      · omega
      · exact hn h1)]
    exact h.block k hk hn⟩
theorem Keep.alloc (h : Keep S a w) (o : Obj) : Keep S a (w.alloc o) := h.grown (World.grownBy_alloc w o none) (fun k hk => by cases hk)
theorem Keep.drewN (h : Keep S a w) (n : Nat) : Keep S a (w.drewN n) := ⟨h.os, h.tape, h.output, h.size, h.block⟩
theorem Keep.set (h : Keep S a w) {g : Nat} (hg : S g ∨ a.heap.size ≤ g) (j : Nat) (u : Value) : Keep S a (w.setCell ⟨g, j, none⟩ u) :=
  ⟨h.os, h.tape, h.output, by simpa [World.setCell] using h.size, fun k hk hn => (Below.heap_setCell w _ u k (fun e => by
    simp only at e
    rcases hg with h1 | h1
    · exact hn (e ▸ h1)
    · omega)).trans (h.block k hk hn)⟩
theorem Keep.below {B : Nat} (h : Keep S a w) (g : Below B w w') (hB : a.heap.size ≤ B) : Keep S a w' :=
  ⟨g.os.trans h.os, g.tape.trans h.tape, g.output.trans h.output, Nat.le_trans h.size g.size, fun k hk hn => (g.block k (Nat.lt_of_lt_of_le hk hB)).trans (h.block k hk hn)⟩
theorem Keep.toBelow {B : Nat} {z : World} (h : Keep S a w) (hz : Below B z a) (hB : B ≤ z.heap.size) (hS : ∀ k, S k → B ≤ k) : Below B z w :=
  ⟨h.os.trans hz.os, h.tape.trans hz.tape, h.output.trans hz.output, Nat.le_trans hz.size h.size, fun k hk => (h.block k (Nat.lt_of_lt_of_le hk (Nat.le_trans hB hz.size)) (fun hs => by have := hS k hs; omega)).trans (hz.block k hk)⟩
end

theorem cells_of_two {w : World} {b : Nat} {u v : Value} {t : TypeId} (h : w.heap[b]? = some (.cells #[u, v] t (0, 0))) : w.cell? ⟨b, 0, none⟩ = some u ∧ w.cell? ⟨b, 1, none⟩ = some v := by simp [World.cell?, h]

set_option maxHeartbeats 1000000 in
set_option maxRecDepth 100000 in
theorem keep_any (S : Nat → Prop) (w0 w : World) (ob fb sb : Nat) (v : Value) (f t : K) (s : K × K) (out : List (K × K)) (hw : Keep S w0 w) (hob : w.heap[ob]? = some (.cells #[v] 29 (0, 0)))
    (hfb : w.heap[fb]? = some (.cells #[.string f] 9 (0, 0))) (hsb : w.heap[sb]? = some (.cells #[.string s.1, .string s.2] 24 (0, 0))) (ho : OwnS w w0.heap.size v out) (hS : S ob)
    (h1 : ob < w0.heap.size) (h2 : fb < w0.heap.size) (h3 : sb < w0.heap.size) (hf : fb ≠ ob) (hs : sb ≠ ob) (hl : out.length ≤ 3999990) :
    Calls Try.prog 53 #[.string t, .pointer (some ⟨fb, 0, none⟩), .pointer (some ⟨sb, 0, none⟩), .pointer (some ⟨ob, 0, none⟩)] w fun e w' => e = .returned (.tuple #[]) ∧ ∃ v', w'.heap[ob]? = some (.cells #[v'] 29 (0, 0)) ∧
      w'.heap[fb]? = some (.cells #[.string f] 9 (0, 0)) ∧ w'.heap[sb]? = some (.cells #[.string s.1, .string s.2] 24 (0, 0)) ∧ OwnS w' w0.heap.size v' (out ++ piece f (mn t s.2)) ∧ Keep S w0 w' ∧ ∀ k, k < w.heap.size → k ≠ ob → some k ≠ v.ownBlock → w'.heap[k]? = w.heap[k]? := by
  have hv : ∃ A c, v = .slice A out.length c := by obtain ⟨A, c, h, _⟩ := ho.read; exact ⟨A, c, h⟩
  obtain ⟨A, c, rfl⟩ := hv
  have c1 := cell_of_one hob
  have c2 := cell_of_one hfb
  obtain ⟨c3, c4⟩ := cells_of_two hsb
  have f1 := free_of_one hob
  have l1 := lt_of_block hob
  have hmin := fun (w : World) (ts : Array TypeId) (t : TypeId) (x y : ByteArray) => (Lib.run_min_strs (P := Try.prog) w ts t x y)
  simp only [minS_eq] at hmin
  have HO := Lib.hid ho; clear ho
  have HX := Lib.hid hob; clear hob
  have HF := Lib.hid hfb; clear hfb
  have HS := Lib.hid hsb; clear hsb
  have HW := Lib.hid hw; clear hw
  have hz := HW.out.size
  by_cases hx : f < mn t s.2
  · rw [piece, if_pos hx]
    go_enter Try.func53, Try.ntmps53
    go_wp2_with (first | (go_at_call 20; refine (empty_exact (f, mn t s.2) _).mono ?_; rintro e w1 ⟨rfl, rfl⟩) | (at_builtin; refine wpList_addS rfl _ _ rfl w0.heap.size (.slice A out.length c) out rfl ?c0 _ 1 [(f, mn t s.2)] rfl ?c1 ?c2 ?c3 ?_))
    case c0 => exact ((HO.out.alloc _).alloc _).alloc _
    case c1 => simpa using new_cells ((w.alloc (.cells #[.string f, .string (mn t s.2)] 24)).alloc (.cells #[.string f, .string (mn t s.2)] 24)) (f, mn t s.2) 24
    case c2 => simp; omega
    case c3 => simp; omega
    intro A' c' w1 ho1 hg1
    have hrow : ∀ k, (Value.slice A out.length c).ownBlock = some k → w0.heap.size ≤ k := fun k hk => (HO.out.lt k hk).1
    have hold : ∀ k, k < w0.heap.size → w1.heap[k]? = w.heap[k]? := fun k hk => by
      rw [hg1.block k (by simp; omega) (fun e => by have := hrow k e.symm; omega), Below.heap_alloc _ _ _ (by simp; omega), Below.heap_alloc _ _ _ (by simp; omega), Below.heap_alloc _ _ _ (by omega)]
    have hall : ∀ k, k < w.heap.size → some k ≠ (Value.slice A out.length c).ownBlock → w1.heap[k]? = w.heap[k]? := fun k hk hne => by
      rw [hg1.block k (by simp; omega) hne, Below.heap_alloc _ _ _ (by simp; omega), Below.heap_alloc _ _ _ (by simp; omega), Below.heap_alloc _ _ _ (by omega)]
    have HA := Lib.hid hall; clear hall
    have hb1 := (hold ob h1).trans HX.out
    have hb2 := (hold fb h2).trans HF.out
    have hb3 := (hold sb h3).trans HS.out
    have hk1 := (((HW.out.alloc (.cells #[.string f, .string (mn t s.2)] 24)).alloc (.cells #[.string f, .string (mn t s.2)] 24)).alloc (.cells #[.string f, .string (mn t s.2)] 24)).grown hg1 fun k hk => .inl (hrow k hk)
    have hc1 := cell_of_one hb1
    have hf1 := free_of_one hb1
    have HO1 := Lib.hid ho1; clear ho1
    have HB1 := Lib.hid hb1; clear hb1
    have HB2 := Lib.hid hb2; clear hb2
    have HB3 := Lib.hid hb3; clear hb3
    have HK1 := Lib.hid hk1; clear hk1
    clear c1 c2 c3 c4 f1 hold hrow hg1
    go_wp2_with fail
    go_end0
    refine ⟨rfl, _, one_setCell HB1.out, (Below.heap_setCell _ _ _ _ (by exact hf)).trans HB2.out, (Below.heap_setCell _ _ _ _ (by exact hs)).trans HB3.out, ?_, HK1.out.set (.inl hS) 0 _, fun k hk hne hne2 => (Below.heap_setCell _ _ _ _ (by exact hne)).trans (HA.out k hk hne2)⟩
    simpa using HO1.out.setOther h1 0 _
  · rw [piece, if_neg hx, List.append_nil]
    go_enter Try.func53, Try.ntmps53
    go_wp2_with (go_at_call 20; refine (empty_exact (f, mn t s.2) _).mono ?_; rintro e w1 ⟨rfl, rfl⟩)
    go_end0
    have hold : ∀ k (o o' : Obj), k < w0.heap.size → ((w.alloc o).alloc o').heap[k]? = w.heap[k]? := fun k o o' hk => by
      rw [Below.heap_alloc _ _ _ (by simp; omega), Below.heap_alloc _ _ _ (by omega)]
    exact ⟨rfl, _, (hold ob _ _ h1).trans HX.out, (hold fb _ _ h2).trans HF.out, (hold sb _ _ h3).trans HS.out, (HO.out.alloc _).alloc _, (HW.out.alloc _).alloc _, fun k hk _ _ => by rw [Below.heap_alloc _ _ _ (by simp; omega), Below.heap_alloc _ _ _ hk]⟩

theorem mn_self (a : K) : mn a a = a := by unfold mn; split <;> rfl
theorem piece_len (a b : K) : (piece a b).length ≤ 1 := by unfold piece; split <;> simp

set_option maxHeartbeats 1000000 in
set_option maxRecDepth 100000 in
theorem without_any (s : K × K) (l : List (K × K)) (v : Value) (w : World) (hv : RdS w w.heap.size v l) (hl : l.length ≤ 2000000) : Calls Try.prog 40 #[.agg #[.string s.1, .string s.2], v] w fun e w' =>
    ∃ v' R, e = .returned v' ∧ OwnS w' w.heap.size v' R ∧ Below w.heap.size w w' ∧ Normal R ∧ (∀ k, mem R k ↔ has s k ∧ ¬ mem l k) ∧ R.length ≤ 2000001 := by
  obtain ⟨A, c, rfl, hc⟩ : ∃ A c, v = .slice A l.length c ∧ l.length ≤ c := by obtain ⟨A, c, h1, h2, _⟩ := hv; exact ⟨A, c, h1, h2⟩
  have hr := fun W (hW : RdS W W.heap.size (.slice A l.length c) l) => join_any l (.slice A l.length c) W hW hl
  have HR := Lib.hid hr; clear hr
  have HV := Lib.hid hv; clear hv
  have hmax := fun (w : World) (ts : Array TypeId) (t : TypeId) (x y : ByteArray) => (Lib.run_max_strs (P := Try.prog) w ts t x y)
  simp only [maxS_eq] at hmax
  go_enter Try.func40, Try.ntmps40
  go_wp2_with fail
  have hb3 : Below w.heap.size w (((w.alloc (.cells #[.string s.1, .string s.2] 24)).alloc (.cells #[.slice none 0 0] 29)).alloc (.cells #[.string s.1] 9)) := (((Below.refl _ w).alloc (Nat.le_refl _) _).alloc (by simp) _).alloc (by simp; omega) _
  refine (HR.out _ ((HV.out.below hb3 (Nat.le_refl _)).mono (by simp; omega))).mono ?_
  rintro e w2 ⟨v', J, rfl, ho2, hb2, hn, hm, hJ⟩
  obtain ⟨A', c', rfl, hi⟩ := ho2.read
  have hz := hb2.size
  simp only [World.size_alloc] at hz
  have x1 : w2.heap[w.heap.size]? = some (.cells #[.string s.1, .string s.2] 24 (0, 0)) := by
    rw [hb2.block _ (by simp; omega), Below.heap_alloc _ _ _ (by simp; omega), Below.heap_alloc _ _ _ (by simp)]
    exact heap_alloc_new w _
  have x2 : w2.heap[w.heap.size + 1]? = some (.cells #[.slice none 0 0] 29 (0, 0)) := by
    rw [hb2.block _ (by simp), Below.heap_alloc _ _ _ (by simp)]
    have := heap_alloc_new (w.alloc (.cells #[.string s.1, .string s.2] 24)) (.cells #[.slice none 0 0] 29)
    simpa using this
  have x3 : w2.heap[w.heap.size + 1 + 1]? = some (.cells #[.string s.1] 9 (0, 0)) := by
    rw [hb2.block _ (by simp)]
    have := heap_alloc_new ((w.alloc (.cells #[.string s.1, .string s.2] 24)).alloc (.cells #[.slice none 0 0] 29)) (.cells #[.string s.1] 9)
    simpa using this
  have hbw : Below w.heap.size w w2 := hb3.trans (hb2.mono (by simp; omega))
  clear ho2 hb2 hb3
  have HI := Lib.hid hi; clear hi
  have X1 := Lib.hid x1; clear x1
  have X2 := Lib.hid x2; clear x2
  have X3 := Lib.hid x3; clear x3
  have HN := Lib.hid hn; clear hn
  have HM := Lib.hid hm; clear hm
  have HBW := Lib.hid hbw; clear hbw
  go_wp2_with fail
  go_loopw [16] (fun i wr => ∃ (j : Nat) (ov : Value) (f : K) (out : List (K × K)), j ≤ J.length ∧ i = .int .i64 j ∧ Keep (fun k => k = w.heap.size + 1 ∨ k = w.heap.size + 1 + 1) w2 wr ∧
    wr.heap[w.heap.size]? = some (.cells #[.string s.1, .string s.2] 24 (0, 0)) ∧ wr.heap[w.heap.size + 1]? = some (.cells #[ov] 29 (0, 0)) ∧ wr.heap[w.heap.size + 1 + 1]? = some (.cells #[.string f] 9 (0, 0)) ∧
    OwnS wr w2.heap.size ov out ∧ left J s.1 s.2 = out ++ left (J.drop j) f s.2 ∧ out.length ≤ j) (fun i _ => J.length - (intOf i).toNat)
  case atStart => exact ⟨0, _, s.1, [], Nat.zero_le _, rfl, Keep.refl _ _, X1.out, X2.out, X3.out, OwnS.nil _ _, rfl, Nat.le_refl _⟩
  case round =>
    obtain ⟨j, ov, f, out, hj, rfl, hk, b1, b2, b3, ho, he, hlen⟩ := hrel
    have hkeep := fun W t h1 h2 h3 h4 h5 => keep_any (fun k => k = w.heap.size + 1 ∨ k = w.heap.size + 1 + 1) w2 W (w.heap.size + 1) (w.heap.size + 1 + 1) w.heap.size ov f t s out h1 h2 h3 h4 h5 (.inl rfl) (by omega) (by omega) (by omega) (by omega) (by omega) (by omega)
    have HC := Lib.hid hkeep; clear hkeep
    by_cases hlt : j < J.length
    · obtain ⟨g, rfl, hg1, hg2, h1, h2⟩ := HI.out j hlt
      have hgs : wr.heap[g]? = w2.heap[g]? := hk.block g hg2 (by simp only [World.size_alloc] at hg1; omega)
      have g1 := (World.cell?_of_block (a := ⟨g, j * 2, none⟩) hgs).trans h1
      have g2 := (World.cell?_of_block (a := ⟨g, j * 2 + 1, none⟩) hgs).trans h2
      have hd : J.drop j = J[j] :: J.drop (j + 1) := List.drop_eq_getElem_cons hlt
      have HD := Lib.hid hd; clear hd
      clear h1 h2 hgs
      have HE := Lib.hid he; clear he
      have B1 := Lib.hid b1; clear b1
      have B2 := Lib.hid b2; clear b2
      have B3 := Lib.hid b3; clear b3
      have HO := Lib.hid ho; clear ho
      have HK := Lib.hid hk; clear hk
      go_wp2_with fail
      have q1 : (wr.alloc (.cells #[.string J[j].1, .string J[j].2] 24)).heap[w.heap.size]? = _ := (Below.heap_alloc _ _ _ (lt_of_block B1.out)).trans B1.out
      have q2 : (wr.alloc (.cells #[.string J[j].1, .string J[j].2] 24)).heap[w.heap.size + 1]? = _ := (Below.heap_alloc _ _ _ (lt_of_block B2.out)).trans B2.out
      have q3 : (wr.alloc (.cells #[.string J[j].1, .string J[j].2] 24)).heap[w.heap.size + 1 + 1]? = _ := (Below.heap_alloc _ _ _ (lt_of_block B3.out)).trans B3.out
      refine (HC.out _ J[j].1 (HK.out.alloc _) q2 q3 q1 (HO.out.alloc _)).mono ?_
      clear q1 q2 q3
      rintro e w3 ⟨rfl, ov', r2, r3, r1, ro, rk, ra⟩
      have r4 : w3.heap[wr.heap.size]? = some (.cells #[.string J[j].1, .string J[j].2] 24 (0, 0)) := by
        rw [ra _ (by simp) (by have := lt_of_block B2.out; omega) (fun e => by have := (HO.out.lt _ e.symm).2; omega)]
        exact heap_alloc_new wr _
      have c3 := cell_of_one r3
      have f3 := free_of_one r3
      have c4 := (cells_of_two r4).2
      have R1 := Lib.hid r1; clear r1
      have R2 := Lib.hid r2; clear r2
      have R3 := Lib.hid r3; clear r3
      have RO := Lib.hid ro; clear ro
      have RK := Lib.hid rk; clear rk
      clear r4 ra
      go_wp2_with fail
      go_roundw
      case rel =>
        refine ⟨j + 1, ov', mx f J[j].2, out ++ piece f (mn J[j].1 s.2), by omega, by go_num, RK.out.set (.inl (.inr rfl)) 0 _, (Below.heap_setCell _ _ _ _ (by simp; omega)).trans R1.out, (Below.heap_setCell _ _ _ _ (by simp)).trans R2.out, one_setCell R3.out, RO.out.setOther (by omega) 0 _, ?_, ?_⟩
        · rw [HE.out, HD.out, left, List.append_assoc]
        · rw [List.length_append]
          have := piece_len f (mn J[j].1 s.2)
          omega
      case measure => simp [intOf]; omega
    · obtain rfl : j = J.length := by omega
      have c1 := (cells_of_two b1).2
      have HE := Lib.hid he; clear he
      have B1 := Lib.hid b1; clear b1
      have B2 := Lib.hid b2; clear b2
      have B3 := Lib.hid b3; clear b3
      have HO := Lib.hid ho; clear ho
      have HK := Lib.hid hk; clear hk
      go_wp2_with fail
      refine (HC.out _ s.2 HK.out B2.out B3.out B1.out HO.out).mono ?_
      rintro e w3 ⟨rfl, ov', r2, r3, r1, ro, rk, ra⟩
      have c2 := cell_of_one r2
      have RO := Lib.hid ro; clear ro
      have RK := Lib.hid rk; clear rk
      clear r1 r2 r3 ra c1
      go_wp2_with fail
      have hfin : left J s.1 s.2 = out ++ piece f (mn s.2 s.2) := by rw [HE.out, List.drop_length, left, mn_self]
      obtain ⟨n1, n2⟩ := left_ok J s.1 s.2 HN.out
      rw [hfin] at n1 n2
      refine bodyPost_ret (v := ov') ?_ rfl ⟨_, _, rfl, RO.out.lower (by omega), RK.out.toBelow HBW.out (Nat.le_refl _) (by rintro k (rfl | rfl) <;> omega), n1, fun k => ?_, ?_⟩
      · simp [results, Try.results40, go_sem]
      · rw [n2 k, HM.out k]; rfl
      · rw [List.length_append]
        have := piece_len f (mn s.2 s.2)
        omega
end Go.Proofs.Ytcmpbhcldaogiaa
namespace Go.Proofs.Ytcmpbhcldaogiaa
open Go.RowKit
section
variable {P : Program} {ops : Array Oper} {Q : Exit → Act → World → Prop} {S S2 : World → Prop} {f : Nat}

/-- S holds as long as f has not come up, S2 always -/
def TwoT (S S2 : World → Prop) (f : Nat) (L : Array Bool) (w : World) : Prop := (L.getD f true = false → S w) ∧ S2 w
def RestG (P : Program) (ops : Array Oper) (Q : Exit → Act → World → Prop) (S S2 : World → Prop) (f : Nat) : Nat → Array Bool → Act → World → Prop
  | 0, L, a, w => Region.ready .any ops L = [] ∧ Q .normal a w
  | n + 1, L, a, w => (Region.ready .any ops L = [] → Q .normal a w) ∧ ∀ i ∈ Region.ready .any ops L, wpOp P ops Q i (fun a' w' => TwoT S S2 f (L.setIfInBounds i true) w' ∧ RestG P ops Q S S2 f n (L.setIfInBounds i true) a' w') a w
theorem RestG.plain : ∀ (n : Nat) (L : Array Bool) (a : Act) (w : World), RestG P ops Q S S2 f n L a w → wpAny P .any ops Q n L a w
  | 0, _, _, _, h => h
  | n + 1, _, _, _, h => ⟨h.1, fun i hi => wpOp_mono (fun a' w' h' => RestG.plain n _ a' w' h'.2) (h.2 i hi)⟩
/-- f waits for number i -/
def waitsG (ops : Array Oper) (f i : Nat) : Bool := ((ops[f]?).map fun o => o.after.any fun e => Region.binds .any e && e.on == i).getD false
theorem waitsG.of {i : Nat} (h1 : waitsG ops f i = true) : ∃ o, ops[f]? = some o ∧ ∃ e ∈ o.after, Region.binds .any e = true ∧ e.on = i := by
  unfold waitsG at h1
  cases ho : ops[f]? with
  | none => rw [ho] at h1; simp at h1
  | some o =>
    rw [ho] at h1
    simp only [Option.map_some, Option.getD_some] at h1
    obtain ⟨e, he, hb⟩ := Array.any_eq_true'.1 h1
    simp only [Bool.and_eq_true, beq_iff_eq] at hb
    exact ⟨o, rfl, e, he, hb.1, hb.2⟩
theorem TwoT.other {i : Nat} (hif : i ≠ f) {L : Array Bool} {w : World} (h : TwoT S S2 f L w) : TwoT S S2 f (L.setIfInBounds i true) w :=
  ⟨fun h' => h.1 (by rwa [getD_set_ne true hif] at h'), h.2⟩
theorem TwoT.back {i j : Nat} (hif : i ≠ f) {L : Array Bool} {w : World} (h : TwoT S S2 f ((L.setIfInBounds i true).setIfInBounds j true) w) : TwoT S S2 f (L.setIfInBounds j true) w := by
  by_cases hij : j = i
  · subst hij
    refine ⟨fun h' => h.1 ?_, h.2⟩
    rw [getD_set_ne true hif] at h' ⊢
    rw [getD_set_ne true hif]
    exact h'
  · rw [Array.setIfInBounds_comm _ _ (Ne.symm hij)] at h
    exact ⟨fun h' => h.1 (by rw [getD_set_ne true hif]; exact h'), h.2⟩

/-- what f waits for -/
theorem RestG.early {i : Nat} {oi : Oper} {v : Value} (hi : ops[i]? = some oi) (hs : Region.noSelect ops = true) (hf : waitsG ops f i = true) (hif : i ≠ f)
    (hQ : ∀ c a w, Q (.panic c) (a.put oi.dst v) w → Q (.panic c) a w) : ∀ (n : Nat) (L : Array Bool) (a : Act) (w : World), Region.free .any ops L i = true → i ∈ Region.ready .any ops L → L.getD f true = false → YieldsIf P ops S oi v a → TwoT S S2 f L w →
      RestG P ops Q S S2 f n (L.setIfInBounds i true) (a.put oi.dst v) w → RestG P ops Q S S2 f (n + 1) L a w := by
  have go : ∀ (n : Nat) (L : Array Bool) (a : Act) (w : World), (∀ j oj, ops[j]? = some oj → j ≠ i → L.getD j true = false → (∀ e ∈ oj.after, Region.binds .any e = true → e.on ≠ i) → oi.apart ops oj = true) →
      i ∈ Region.ready .any ops L → L.getD f true = false → YieldsIf P ops S oi v a → TwoT S S2 f L w → RestG P ops Q S S2 f n (L.setIfInBounds i true) (a.put oi.dst v) w → RestG P ops Q S S2 f (n + 1) L a w := by
    intro n
    induction n with
    | zero =>
      intro L a w _ hr hLf hy hS H
      refine ⟨fun h0 => by (rw [h0] at hr; simp at hr), fun j hj => ?_⟩
      by_cases hji : j = i
      · rw [hji]
        exact hy.wpOp hi (hS.1 hLf) ⟨hS.other hif, H⟩
      · have := ready_mono hj hji
        rw [H.1] at this
        simp at this
    | succ n ih =>
      intro L a w hfr hr hLf hy hS H
      refine ⟨fun h0 => by (rw [h0] at hr; simp at hr), fun j hj => ?_⟩
      by_cases hji : j = i
      · rw [hji]
        exact hy.wpOp hi (hS.1 hLf) ⟨hS.other hif, H⟩
      · obtain ⟨hun, oj, hoj, hall⟩ := mem_ready.1 hj
        have hi0 := (mem_ready.1 hr).1
        have hno : ∀ e ∈ oj.after, Region.binds .any e = true → e.on ≠ i := fun e he hb heq => by
          have h1 := hall e he hb
          rw [heq] at h1
          by_cases hL : i < L.size
          · simp [hL] at hi0 h1; rw [hi0] at h1; cases h1
          · simp [Array.getElem?_eq_none (Nat.le_of_not_lt hL)] at h1
        have hjf : j ≠ f := fun e => by
          subst e
          obtain ⟨o, ho, e, he, hb, hon⟩ := waitsG.of hf
          rw [hoj] at ho
          cases ho
          exact hno e he hb hon
        have h2 := wpOp_putIf hoj (hfr j oj hoj hji hun hno) (fun cs b => Region.noSelect_spec hs i oi cs b hi) (fun cs b => Region.noSelect_spec hs j oj cs b hoj) hQ hy (H.2 j (ready_mono hj hji))
        refine wpOp_mono (fun a' w' h3 => ?_) h2
        obtain ⟨hy', hT, H'⟩ := h3
        have hT' := hT.back hif
        refine ⟨hT', ih _ a' w' (fun k ok hk hki hku hkn => hfr k ok hk hki ?_ hkn) (ready_mono hr (Ne.symm hji)) (by rw [getD_set_ne true hjf]; exact hLf) hy' hT' ?_⟩
        · by_cases hjk : j = k
          · subst hjk; exact hun
          · rwa [getD_set_ne true hjk] at hku
        · rw [Array.setIfInBounds_comm _ _ hji]
          exact H'
  intro n L a w hfree hr hLf hy hS H
  exact go n L a w (Region.free_spec hi hfree) hr hLf hy hS H
/-- what it does not wait for -/
theorem RestG.early2 {i : Nat} {oi : Oper} {v : Value} (hi : ops[i]? = some oi) (hs : Region.noSelect ops = true) (hif : i ≠ f)
    (hQ : ∀ c a w, Q (.panic c) (a.put oi.dst v) w → Q (.panic c) a w) : ∀ (n : Nat) (L : Array Bool) (a : Act) (w : World), Region.free .any ops L i = true → i ∈ Region.ready .any ops L → YieldsIf P ops S2 oi v a → TwoT S S2 f L w →
      RestG P ops Q S S2 f n (L.setIfInBounds i true) (a.put oi.dst v) w → RestG P ops Q S S2 f (n + 1) L a w := by
  have go : ∀ (n : Nat) (L : Array Bool) (a : Act) (w : World), (∀ j oj, ops[j]? = some oj → j ≠ i → L.getD j true = false → (∀ e ∈ oj.after, Region.binds .any e = true → e.on ≠ i) → oi.apart ops oj = true) →
      i ∈ Region.ready .any ops L → YieldsIf P ops S2 oi v a → TwoT S S2 f L w → RestG P ops Q S S2 f n (L.setIfInBounds i true) (a.put oi.dst v) w → RestG P ops Q S S2 f (n + 1) L a w := by
    intro n
    induction n with
    | zero =>
      intro L a w _ hr hy hS H
      refine ⟨fun h0 => by (rw [h0] at hr; simp at hr), fun j hj => ?_⟩
      by_cases hji : j = i
      · rw [hji]
        exact hy.wpOp hi hS.2 ⟨hS.other hif, H⟩
      · have := ready_mono hj hji
        rw [H.1] at this
        simp at this
    | succ n ih =>
      intro L a w hfr hr hy hS H
      refine ⟨fun h0 => by (rw [h0] at hr; simp at hr), fun j hj => ?_⟩
      by_cases hji : j = i
      · rw [hji]
        exact hy.wpOp hi hS.2 ⟨hS.other hif, H⟩
      · obtain ⟨hun, oj, hoj, hall⟩ := mem_ready.1 hj
        have hi0 := (mem_ready.1 hr).1
        have hno : ∀ e ∈ oj.after, Region.binds .any e = true → e.on ≠ i := fun e he hb heq => by
          have h1 := hall e he hb
          rw [heq] at h1
          by_cases hL : i < L.size
          · simp [hL] at hi0 h1; rw [hi0] at h1; cases h1
          · simp [Array.getElem?_eq_none (Nat.le_of_not_lt hL)] at h1
        have h2 := wpOp_putIf hoj (hfr j oj hoj hji hun hno) (fun cs b => Region.noSelect_spec hs i oi cs b hi) (fun cs b => Region.noSelect_spec hs j oj cs b hoj) hQ hy (H.2 j (ready_mono hj hji))
        refine wpOp_mono (fun a' w' h3 => ?_) h2
        obtain ⟨hy', hT, H'⟩ := h3
        have hT' := hT.back hif
        refine ⟨hT', ih _ a' w' (fun k ok hk hki hku hkn => hfr k ok hk hki ?_ hkn) (ready_mono hr (Ne.symm hji)) hy' hT' ?_⟩
        · by_cases hjk : j = k
          · subst hjk; exact hun
          · rwa [getD_set_ne true hjk] at hku
        · rw [Array.setIfInBounds_comm _ _ hji]
          exact H'
  intro n L a w hfree hr hy hS H
  exact go n L a w (Region.free_spec hi hfree) hr hy hS H

/-- 0: taken, f waits for it; 1: taken; 2: comes up alone, f or behind it -/
def planOkG (ops : Array Oper) (f : Nat) : List (Nat × Nat) → Array Bool → Bool
  | [], L => (Region.ready .any ops L).isEmpty
  | (0, i) :: r, L => waitsG ops f i && (i != f) && !(L.getD f true) && Region.free .any ops L i && (Region.ready .any ops L).contains i && planOkG ops f r (L.setIfInBounds i true)
  | (1, i) :: r, L => (i != f) && Region.free .any ops L i && (Region.ready .any ops L).contains i && planOkG ops f r (L.setIfInBounds i true)
  | (_, i) :: r, L => Region.ready .any ops L == [i] && ((L.setIfInBounds i true).getD f true) && planOkG ops f r (L.setIfInBounds i true)
def PlanG (P : Program) (ops : Array Oper) (S S2 : World → Prop) (f : Nat) (Q : Exit → Act → World → Prop) : List (Nat × Nat) → Act → World → Prop
  | [], a, w => Q .normal a w
  | (0, i) :: r, a, w => ∃ o v, ops[i]? = some o ∧ YieldsIf P ops S o v a ∧ PlanG P ops S S2 f Q r (a.put o.dst v) w
  | (1, i) :: r, a, w => ∃ o v, ops[i]? = some o ∧ YieldsIf P ops S2 o v a ∧ PlanG P ops S S2 f Q r (a.put o.dst v) w
  | (_, i) :: r, a, w => wpOp P ops Q i (fun a' w' => S2 w' ∧ PlanG P ops S S2 f Q r a' w') a w
theorem PlanG.any (hs : Region.noSelect ops = true) (hQ : ∀ c a d v w, Q (.panic c) (Act.put a d v) w → Q (.panic c) a w) : ∀ (plan : List (Nat × Nat)) (n : Nat) (L : Array Bool) (a : Act) (w : World),
    plan.length ≤ n → planOkG ops f plan L = true → TwoT S S2 f L w → PlanG P ops S S2 f Q plan a w → RestG P ops Q S S2 f n L a w
  | [], n, L, a, w, _, hp, _, h => by
    have hr : Region.ready .any ops L = [] := by simpa [planOkG] using hp
    cases n with
    | zero => exact ⟨hr, h⟩
    | succ n => exact ⟨fun _ => h, by rw [hr]; simp⟩
  | (0, i) :: r, n + 1, L, a, w, hn, hp, hS, h => by
    obtain ⟨o, v, ho, hy, hr⟩ := h
    simp only [planOkG, Bool.and_eq_true, Bool.not_eq_true', bne_iff_ne] at hp
    obtain ⟨⟨⟨⟨⟨h1, h2⟩, h3⟩, h4⟩, h5⟩, h6⟩ := hp
    exact RestG.early ho hs h1 h2 (fun c a w => hQ c a _ _ w) n L a w h4 (by simpa using h5) h3 hy hS (PlanG.any hs hQ r n _ _ _ (by simpa using hn) h6 (hS.other h2) hr)
  | (1, i) :: r, n + 1, L, a, w, hn, hp, hS, h => by
    obtain ⟨o, v, ho, hy, hr⟩ := h
    simp only [planOkG, Bool.and_eq_true, bne_iff_ne] at hp
    obtain ⟨⟨⟨h2, h4⟩, h5⟩, h6⟩ := hp
    exact RestG.early2 ho hs h2 (fun c a w => hQ c a _ _ w) n L a w h4 (by simpa using h5) hy hS (PlanG.any hs hQ r n _ _ _ (by simpa using hn) h6 (hS.other h2) hr)
  | (k + 2, i) :: r, n + 1, L, a, w, hn, hp, _, h => by
    simp only [planOkG, Bool.and_eq_true, beq_iff_eq] at hp
    obtain ⟨⟨h1, h2⟩, h3⟩ := hp
    refine ⟨fun h0 => by rw [h1] at h0; simp at h0, fun j hj => ?_⟩
    rw [h1] at hj
    obtain rfl : j = i := by simpa using hj
    refine wpOp_mono (fun a' w' h' => ?_) h
    have hT : TwoT S S2 f (L.setIfInBounds j true) w' := ⟨fun e => (by rw [h2] at e; cases e), h'.1⟩
    exact ⟨hT, PlanG.any hs hQ r n _ _ _ (by simpa using hn) h3 hT h'.2⟩
  | _ :: _, 0, _, _, _, hn, _, _, _ => by simp at hn

theorem wp_region_planG (S S2 : World → Prop) (f : Nat) (plan : List (Nat × Nat)) {id : Nat} {a : Act} {w : World} (hm : P.follows .mixedOrders = true) (hs : (Region.noSelect ops && planOkG ops f plan (Array.replicate ops.size false) && decide (plan.length ≤ ops.size)) = true)
    (hQ : ∀ c a d v w, Q (.panic c) (Act.put a d v) w → Q (.panic c) a w) (hS : S w.drew) (hS2 : S2 w.drew) (h : PlanG P ops S S2 f Q plan a w.drew) : (Code.region id ops true).wp P Q a w := by
  simp only [Bool.and_eq_true, decide_eq_true_eq] at hs
  exact wp_region_any hm (RestG.plain _ _ _ _ (PlanG.any hs.1.1 hQ plan _ _ _ _ hs.2 hs.1.2 ⟨fun _ => hS, hS2⟩ h))

theorem PlanG.take {i : Nat} {o : Oper} {v : Value} {r : List (Nat × Nat)} {a : Act} {w : World} (hi : ops.toList[i]? = some o) (hw : Region.wanted o (yielded ops a.tmps) = true)
    (hy : ∀ W, S W → (execOp a.eval o).run P W = .ok (.value v) W) (h : PlanG P ops S S2 f Q r (a.put o.dst v) w) : PlanG P ops S S2 f Q ((0, i) :: r) a w :=
  ⟨o, v, by simpa using hi, .inl ⟨hw, hy⟩, h⟩
theorem PlanG.take2 {i : Nat} {o : Oper} {v : Value} {r : List (Nat × Nat)} {a : Act} {w : World} (hi : ops.toList[i]? = some o) (hw : Region.wanted o (yielded ops a.tmps) = true)
    (hy : ∀ W, S2 W → (execOp a.eval o).run P W = .ok (.value v) W) (h : PlanG P ops S S2 f Q r (a.put o.dst v) w) : PlanG P ops S S2 f Q ((1, i) :: r) a w :=
  ⟨o, v, by simpa using hi, .inl ⟨hw, hy⟩, h⟩
theorem PlanG.step {i : Nat} {o : Oper} {r : List (Nat × Nat)} {a : Act} {w : World} (hi : ops.toList[i]? = some o) (hw : Region.wanted o (yielded ops a.tmps) = true)
    (h : ∀ K : Act → World → Prop, Shut (∀ a w, S2 w → PlanG P ops S S2 f Q r a w → K a w) → Oper.wp P o a w K Q) : PlanG P ops S S2 f Q ((2, i) :: r) a w := by
  show wpOp P ops Q i _ a w
  refine wpOp_step (o := o) (by simpa using hi) fun K' hK => ?_
  rw [if_pos hw]
  exact h K' fun a w h1 h2 => hK a w ⟨h1, h2⟩
end
end Go.Proofs.Ytcmpbhcldaogiaa
namespace Go.Proofs.Ytcmpbhcldaogiaa
open Go.RowKit
attribute [local go_sem] less_eq same_eq le_eq ge_eq gt_eq

theorem without_len {y x : K × K} {W : List (K × K)} (h : Fits W (fun k => has y k ∧ ¬ has x k)) (hx : x.1 < x.2) : W.length ≤ 2 := by
  refine fits_len (l := [(y.1, mn y.2 x.1), (mx y.1 x.2, y.2)]) ⟨h.1, fun k => (h.2 k).trans ?_⟩
  show (has y k ∧ ¬ has x k) ↔ mem [(y.1, mn y.2 x.1), (mx y.1 x.2, y.2)] k
  rw [mem_cons, mem_cons]
  have hn := mem_nil k
  unfold has
  rcases mn_cases y.2 x.1 with ⟨e1, e2⟩ | ⟨e1, e2⟩ <;> rcases mx_cases y.1 x.2 with ⟨e3, e4⟩ | ⟨e3, e4⟩ <;> simp only [e2, e4] <;> constructor <;> intro h5 <;> grind
theorem Own.setOtherK {α : Type} {enc : α → List Value} {k : Nat} {e : TypeId} {w : World} {base : Nat} {v : Value} {l : List α} (h : Own enc k e w base v l) {g : Nat} (hg : g < base) (j : Nat) (u : Value) : Own enc k e (w.setCell ⟨g, j, none⟩ u) base v l :=
  ownsRow_setCell_other h (a := ⟨g, j, none⟩) (fun e => by have := (h.low (i := g) e).1; omega) u
set_option maxRecDepth 100000 in
theorem RdMk.one (w : World) (x : Wr) : RdW (w.alloc (.cells #[.string x.s.1, .string x.s.2, .int .i64 x.v] 60)) (w.heap.size + 1) (.slice (some ⟨w.heap.size, 0, none⟩) 1 1) [x] := by
  have hW : Whole (w.alloc (.cells #[.string x.s.1, .string x.s.2, .int .i64 x.v] 60)) w.heap.size 60 [.string x.s.1, .string x.s.2, .int .i64 x.v] := Whole.fresh w _ [_, _, _]
  refine ⟨_, 1, rfl, Nat.le_refl _, fun i hi => ⟨w.heap.size, 0, rfl, Nat.lt_succ_self _, fun j u hu => ?_⟩⟩
  obtain rfl : i = 0 := by simp at hi; omega
  have h1 := hW.cell j u
  simp only [encW, List.getElem_cons_zero] at hu
  simpa using h1 hu
theorem RdS.oneS (w : World) (s : K × K) : RdS (w.alloc (.cells #[.string s.1, .string s.2] 24)) (w.alloc (.cells #[.string s.1, .string s.2] 24)).heap.size (.slice (some ⟨w.heap.size, 0, none⟩) 1 1) [s] := by
  have hW : Whole (w.alloc (.cells #[.string s.1, .string s.2] 24)) w.heap.size 24 [.string s.1, .string s.2] := Whole.fresh w _ [_, _]
  refine ⟨_, 1, rfl, Nat.le_refl _, fun i x hi => ⟨w.heap.size, 0, rfl, by simp, ?_, ?_⟩⟩
  · cases i with
    | zero => simp at hi; subst hi; exact hW.cell 0 _ rfl
    | succ i => simp at hi
  · cases i with
    | zero => simp at hi; subst hi; exact hW.cell 1 _ rfl
    | succ i => simp at hi
section
variable {ops : Array Oper} {rest : List Oper} {o : Oper} {a : Act} {Q : Exit → Act → World → Prop} {w : World}
set_option maxRecDepth 100000 in
theorem wpList_addK (hgd : Region.wanted o (yielded ops a.tmps) = true) (s x : Operand)
    (ho : o.op = .call { callee := .builtin .append, args := #[s, x], argTypes := #[49, 49] })
    (base : Nat) (v : Value) (l : List Wr) (hs : a.eval s = v) (hown : OwnMk w base v l) (B : Nat) (v2 : Value) (p : List Wr) (hx : a.eval x = v2) (hp : RdW w B v2 p)
    (hlen : l.length + p.length ≤ 1000000) (hbase : base ≤ w.heap.size)
    (h : ∀ A' c' w', Hid (OwnMk w' base (.slice A' (l ++ p).length c') (l ++ p)) → Hid (w.grownBy w' v.ownBlock) → Hid (NewRow w v.ownBlock (Value.ownBlock (.slice A' (l ++ p).length c'))) → wpList Try.prog ops Q rest (a.put o.dst (.slice A' (l ++ p).length c')) w') : wpList Try.prog ops Q (o :: rest) a w := by
  obtain ⟨i0, hi, hz0, hz1, hz2⟩ := info_mkE
  refine BigFrame.wpList_want hgd fun K hK => ?_
  exact wp_addAnyN (enc := encW) (k := 3) 49 60 40 i0 _ Try.underlying49 hi hz0 hz1 hz2 rfl (by decide) encW_len encW_one s x ho base v l hs hown B v2 p hx hp (by unfold maxLen; omega) (by omega) hbase fun A' c' w' h1 h2 h3 => hK _ _ (h A' c' w' (Lib.hid h1) (Lib.hid h2) (Lib.hid h3))
end
theorem OwnMk.src {w : World} {base : Nat} {v vp : Value} {p : List Wr} (h : OwnMk w base vp p) (hp : p ≠ []) (hv : ∀ g, v.ownBlock = some g → g < base) : SrcK w v p vp := by
  rcases h.row with ⟨_, h0⟩ | ⟨g, cap, cur, rfl, hb, hW, h1, _, _, h4⟩
  · exact absurd h0 hp
  · exact ⟨g, cap, cur, rfl, h1, hW, h4, fun e => by have := hv g e.symm; omega⟩

set_option maxHeartbeats 16000000 in
set_option maxRecDepth 100000 in
theorem write_any (base q : Nat) (ov : Option Nat) (floor : Int) (L : List Wr) (f : K → Int) (b : Int) (s : K × K) (v : Int) (w : World) (h : PmL w base q ov floor L) (hrep : Rep f b L) (hs : s.1 < s.2) (hbv : b < v) (hl : L.length ≤ 100000) :
    Calls Try.prog 28 #[.pointer (some ⟨q, 0, none⟩), .agg #[.string s.1, .string s.2, .int .i64 v]] w fun e w' => e = .returned (.tuple #[]) ∧ ∃ ov' L', PmW w w' base q ov floor L' ov' ∧ Rep (fun k => if has s k then v else f k) b L' := by
  obtain ⟨Z, hZ⟩ : ∃ Z, Z = w.heap.size := ⟨_, rfl⟩
  obtain ⟨W1, hW1⟩ : ∃ W1, w.alloc (.cells #[.string s.1, .string s.2, .int .i64 v] 60) = W1 := ⟨_, rfl⟩
  have hB1 : Below w.heap.size w W1 := by rw [← hW1]; exact (Below.refl _ w).alloc (Nat.le_refl _) _
  have hbx1 : Whole W1 w.heap.size 60 [.string s.1, .string s.2, .int .i64 v] := by rw [← hW1]; exact Whole.fresh w _ [_, _, _]
  have hbes := fun W (hW : Below w.heap.size w W) => beside_any q floor L s f b W (h.rd.next hW) hrep hs (by omega)
  have HBE := Lib.hid hbes; clear hbes
  have HP := Lib.hid h
  obtain ⟨A, cap, hw, hown, hov⟩ := h.blk
  have HOWN := Lib.hid hown
  have HOV := Lib.hid hov
  have HW := Lib.hid hw
  have hAc : (A = none ∧ cap = 0 ∧ L = []) ∨ ∃ g, A = some ⟨g, 0, none⟩ := by
    rcases hown.form with ⟨e, h0⟩ | ⟨g, c, e, _⟩
    · injection e with e1 e2 e3
      exact .inl ⟨e1, e3, h0⟩
    · injection e with e1 e2 e3
      exact .inr ⟨g, e1⟩
  have hlc : L.length ≤ cap := by obtain ⟨A', c', e, hc, _⟩ := (Own.rd encW_len hown); injection e with _ _ e3; rw [e3]; exact hc
  have hRW : RdW w w.heap.size (.slice A L.length cap) L := Own.rd encW_len hown
  have HRW := Lib.hid hRW
  have hqs := h.size
  have hrow : ∀ g, ov = some g → g < w.heap.size := fun g hg => (h.row hg).2
  have HROW := Lib.hid hrow
  have hbase := h.low.2
  have HREP := Lib.hid hrep
  have b0 := hbx1.cell 0 _ rfl
  have b1 := hbx1.cell 1 _ rfl
  have HBX1 := Lib.hid hbx1
  have HB1 := Lib.hid hB1
  have hmax := fun (w : World) (ts : Array TypeId) (t : TypeId) (x y : ByteArray) => (Lib.run_max_strs (P := Try.prog) w ts t x y)
  have hmin := fun (w : World) (ts : Array TypeId) (t : TypeId) (x y : ByteArray) => (Lib.run_min_strs (P := Try.prog) w ts t x y)
  simp only [maxS_eq, minS_eq] at hmax hmin
  clear h hown hov hw hRW hrow hrep hbx1 hB1
  have HS := Lib.hid hs; clear hs
  go_enter Try.func28, Try.ntmps28
  go_wp2_with fail
  have HW1 := Lib.hid hW1; clear hW1
  refine (HBE.out _ HB1.out).mono ?_
  rintro e w2 ⟨lo, hi, rfl, hbs, hb2⟩
  have hB2 : Below w.heap.size w w2 := HB1.out.trans (hb2.mono HB1.out.size)
  have hbx2 : Whole w2 w.heap.size 60 [.string s.1, .string s.2, .int .i64 v] := HBX1.out.below hb2 HBX1.out.size
  have hq2 : Whole w2 q 51 [.int .i64 floor, .slice A L.length cap] := HW.out.below hB2 HW.out.size
  have c1 := hq2.cell 1 _ rfl
  have HB2 := Lib.hid hB2
  have HBX2 := Lib.hid hbx2
  have hlh := hbs.le
  have hhl := hbs.len
  have HBS := Lib.hid hbs
  clear hb2 hB2 hbx2 hq2 hbs b0 b1 HBX1 HB1 HBE
  go_upto_region 3 with fail
  obtain ⟨M, hM⟩ : ∃ M, M = (L.take hi).drop lo := ⟨_, rfl⟩
  have hML : M.length = hi - lo := by rw [hM, List.length_drop, List.length_take]; omega
  obtain ⟨N, hN⟩ : ∃ N, N = hi - lo := ⟨_, rfl⟩
  have hNb : N ≤ 100000 := by omega
  have HM := Lib.hid hM; clear hM
  have HN := Lib.hid hN
  have HML := Lib.hid (hML.trans hN.symm); clear hML
  have hsub : ∀ (A' : Option Addr) (c' : Nat), N ≤ c' → (lo < hi → A' = A.map (·.add (lo * 3))) → RdW w w.heap.size (.slice A' N c') M := fun A' c' h1 h2 => by
    have hT := Rd.take HRW.out hi hhl
    have hTl : (L.take hi).length = hi := by rw [List.length_take]; omega
    have hD := Rd.drop hT lo c' (by omega) (by rw [hTl, ← HN.out]; exact h1) A' (fun h => h2 (by rw [hTl] at h; exact h))
    rw [hTl, ← HN.out, ← HM.out] at hD
    exact hD
  have HSUB := Lib.hid hsub; clear hsub
  have hB0 : (lo : Int) ≤ (hi : Int) := by omega
  have hB3 : (hi : Int) ≤ (cap : Int) := by omega
  clear hN
  go_cut [24, 25, 26] (fun sv nv iv wx => ∃ (A' : Option Addr) (c' : Nat), sv = .slice A' N c' ∧ nv = .int .i64 (N : Int) ∧ iv = .int .i64 0 ∧ wx = w2 ∧ Hid (RdW w w.heap.size (.slice A' N c') M))
  case first =>
    rcases hAc with ⟨rfl, rfl, hL0⟩ | ⟨gb, rfl⟩
    · obtain rfl : lo = 0 := by omega
      obtain rfl : hi = 0 := by omega
      obtain rfl : N = 0 := HN.out
      go_wp2_with fail
      go_meet
      case rel => exact ⟨none, 0, rfl, rfl, rfl, rfl, Lib.hid (HSUB.out none 0 (Nat.le_refl _) (fun h => by omega))⟩
    · by_cases hcl : cap = lo
      · subst hcl
        obtain rfl : cap = hi := by omega
        have hn0 : N = 0 := by rw [HN.out]; omega
        subst hn0
        go_wp2_with fail
        go_meet
        case rel => exact ⟨_, _, rfl, rfl, rfl, rfl, Lib.hid (HSUB.out _ _ (Nat.zero_le _) (fun h => by omega))⟩
      · have hN2 := HN.out
        go_wp2_with fail
        rw [← hN2]
        clear hN2
        go_meet
        case rel => exact ⟨some ⟨gb, lo * 3, none⟩, cap - lo, rfl, rfl, rfl, rfl, Lib.hid (HSUB.out _ _ (by rw [HN.out]; omega) (fun _ => by rw [Option.map_some, Addr.add_lit, Nat.zero_add]))⟩
  case rest =>
    obtain ⟨A', c', rfl, rfl, rfl, rfl, HRM⟩ := hcut
    clear hAc hB0 hB3 hlh c1
    rw [← hZ] at HBX2 HB2 HRM HROW hqs hbase
    rw [← hZ]
    have HZ := Lib.hid hZ; clear hZ
    go_wp2_with fail
    go_loopw [6, 26] (fun rv iv wr => ∃ (i : Nat) (x : K × K) (R : List Wr) (Ar : Option Addr) (cr : Nat), i ≤ N ∧ iv = .int .i64 (i : Int) ∧ rv = .slice Ar R.length cr ∧ R.length ≤ 2 * i ∧ Hid (OwnMk wr (Z + 1) (.slice Ar R.length cr) R) ∧ Hid (Whole wr Z 60 [.string x.1, .string x.2, .int .i64 v]) ∧ Hid (WInv f s v (M.take i) x R) ∧ Hid (Below Z w wr)) (fun _ iv _ => N - (intOf iv).toNat)
    case atStart => exact ⟨0, s, [], none, 0, Nat.zero_le _, rfl, rfl, by simp, Lib.hid (Own.nil _ _), HBX2, Lib.hid (WInv.start f s v), HB2⟩
    case round =>
      obtain ⟨i, x, R, Ar, cr, hil, rfl, rfl, hRl, HOR, HBX, HI, HB⟩ := hrel
      have hzlt : Z < wr.heap.size := HBX.out.size
      by_cases hlt : i < N
      · have hlt2 : i < M.length := by rw [HML.out]; exact hlt
        obtain ⟨A2, c2, ev, -, hcells⟩ := RdW.at HRM.out
        injection ev with ev1 ev2 ev3
        subst ev1
        clear ev2 ev3
        obtain ⟨gb, o, rfl, hgb, k0, k1, k2⟩ := hcells i hlt2
        rw [← HB.out.cell (p := ⟨gb, _, none⟩) hgb] at k0
        rw [← HB.out.cell (p := ⟨gb, _, none⟩) hgb] at k1
        rw [← HB.out.cell (p := ⟨gb, _, none⟩) hgb] at k2
        clear hcells
        have htk : M.take (i + 1) = M.take i ++ [M[i]] := by rw [List.take_add_one, List.getElem?_eq_getElem hlt2]; rfl
        have hmem : M[i] ∈ M := List.getElem_mem hlt2
        have hyL : M[i] ∈ L := by
          exact List.mem_of_mem_take (List.mem_of_mem_drop (show M[i] ∈ (L.take hi).drop lo by rw [← HM.out]; exact hmem))
        have hyne := (HREP.out.ne _ hyL).1
        have hyt := HBS.out.touch M[i] (by rw [← HM.out]; exact hmem)
        have hah : ∀ z ∈ M.take i, Ahead z M[i] := fun z hz => by
          obtain ⟨t, ht, rfl⟩ := List.mem_take_iff_getElem.1 hz
          have hp : M.Pairwise Ahead := by rw [HM.out]; exact (HREP.out.rise.sublist (List.take_sublist _ _)).sublist (List.drop_sublist _ _)
          exact List.pairwise_iff_getElem.1 hp t i (by omega) hlt2 (by omega)
        have hsame := fun (hv : M[i].v = v) => HI.out.same hyne hv hyt.2 hyt.1
        have hother := fun (hv : M[i].v ≠ v) W hW => HI.out.other (W := W) hv hah hW
        rw [← htk] at hsame hother
        have HSAME := Lib.hid hsame; clear hsame
        have HOTH := Lib.hid hother; clear hother
        clear hmem hyL hyne hyt hah htk
        generalize M[i] = y at k0 k1 k2 HSAME HOTH
        obtain ⟨⟨y1, y2⟩, yv⟩ := y
        simp only at k0 k1 k2 HSAME HOTH
        obtain ⟨w3, hw3⟩ : ∃ w3, wr.alloc (.cells #[.string y1, .string y2, .int .i64 yv] 60) = w3 := ⟨_, rfl⟩
        have hb3 : Below wr.heap.size wr w3 := by rw [← hw3]; exact (Below.refl _ _).alloc (Nat.le_refl _) _
        have hx3 : Whole w3 wr.heap.size 60 [.string y1, .string y2, .int .i64 yv] := by rw [← hw3]; exact Whole.fresh wr _ [_, _, _]
        have hz3 : w3.heap.size = wr.heap.size + 1 := by rw [← hw3]; simp
        have hbx3 : Whole w3 Z 60 [.string x.1, .string x.2, .int .i64 v] := HBX.out.below hb3 hzlt
        have hor3 : OwnMk w3 (Z + 1) (.slice Ar R.length cr) R := HOR.out.below hb3 (Nat.le_refl _)
        have hbw3 : Below Z w w3 := HB.out.trans (hb3.mono (by omega))
        have y0 := hx3.cell 0 _ rfl
        have y1' := hx3.cell 1 _ rfl
        have y2' := hx3.cell 2 _ rfl
        have x0 := hbx3.cell 0 _ rfl
        have x1 := hbx3.cell 1 _ rfl
        have x2 := hbx3.cell 2 _ rfl
        have HX3 := Lib.hid hx3
        have HBX3 := Lib.hid hbx3
        have HOR3 := Lib.hid hor3
        have HBW3 := Lib.hid hbw3
        have hrow3 : ∀ g, Value.ownBlock (.slice Ar R.length cr) = some g → g < wr.heap.size := fun g hg => (HOR.out.low hg).2
        have HROW3 := Lib.hid hrow3
        clear hb3 hx3 hbx3 hor3 hbw3 hrow3 HBX HOR HB
        by_cases hv : yv = v
        · subst hv
          have hinv := HSAME.out rfl
          have HINV := Lib.hid hinv
          clear hinv HSAME HOTH
          go_wp2_with fail
          have HW3 := Lib.hid hw3; clear hw3
          clear x0 x1 x2 y0 y1' y2' k0 k1 k2
          have hyd := HX3.out.drew
          have hd := HBX3.out.drew
          have hdo := HOR3.out.drew
          have hdb := HBW3.out.drew
          have hyz : Z ≠ wr.heap.size := by omega
          refine wp_region_planG (fun W => Whole W Z 60 [.string x.1, .string x.2, .int .i64 yv] ∧ Whole W wr.heap.size 60 [.string y1, .string y2, .int .i64 yv]) (fun W => Whole W wr.heap.size 60 [.string y1, .string y2, .int .i64 yv]) 16 [(0, 0), (0, 1), (0, 2), (0, 3), (0, 4), (0, 5), (0, 6), (0, 7), (0, 8), (0, 9), (1, 10), (1, 11), (1, 12), (1, 13), (1, 14), (1, 15), (2, 16), (1, 17), (1, 18), (2, 19)] (by kernel_rfl) (by kernel_rfl) (fun _ _ d _ _ h => by cases d <;> exact h) ⟨hd, hyd⟩ hyd ?_
          clear HX3 HOR3 HBW3 HBX3 HW3
          generalize w3.drew = w5 at hd hdo hdb hyd ⊢
          iterate 10 (refine PlanG.take (v := ?_) rfl rfl ?_ ?_; rotate_left; (focus (intro W hW; have m0 := hW.1.cell 0 _ rfl; have m1 := hW.1.cell 1 _ rfl; have m2 := hW.2.cell 0 _ rfl; have m3 := hW.2.cell 1 _ rfl; go_simp; (try with_reducible rfl); done)); (try simp only [Act.put, List.setIfInBounds_toArray, List.set_cons_zero, List.set_cons_succ]))
          iterate 6 (refine PlanG.take2 (v := ?_) rfl rfl ?_ ?_; rotate_left; (focus (intro W hW; have m2 := hW.cell 0 _ rfl; have m3 := hW.cell 1 _ rfl; go_simp; (try with_reducible rfl); done)); (try simp only [Act.put, List.setIfInBounds_toArray, List.set_cons_zero, List.set_cons_succ]))
          have hd4 : Whole (w5.setCell ⟨Z, 0, none⟩ (.string (mn x.1 y1))) Z 60 [.string (mn x.1 y1), .string x.2, .int .i64 yv] := hd.put 0 _
          have hy4 : Whole (w5.setCell ⟨Z, 0, none⟩ (.string (mn x.1 y1))) wr.heap.size 60 [.string y1, .string y2, .int .i64 yv] := hyd.away (p := ⟨Z, 0, none⟩) (Ne.symm hyz) _
          have hd5 : Whole ((w5.setCell ⟨Z, 0, none⟩ (.string (mn x.1 y1))).setCell ⟨Z, 1, none⟩ (.string (mx x.2 y2))) Z 60 [.string (mn x.1 y1), .string (mx x.2 y2), .int .i64 yv] := hd4.put 1 _
          have hy5 : Whole ((w5.setCell ⟨Z, 0, none⟩ (.string (mn x.1 y1))).setCell ⟨Z, 1, none⟩ (.string (mx x.2 y2))) wr.heap.size 60 [.string y1, .string y2, .int .i64 yv] := hy4.away (p := ⟨Z, 1, none⟩) (Ne.symm hyz) _
          have ho5 := (hdo.setOtherK (g := Z) (by omega) 0 (.string (mn x.1 y1))).setOtherK (g := Z) (by omega) 1 (.string (mx x.2 y2))
          have HO5 := Lib.hid ho5
          have HB5 := Lib.hid ((hdb.setCell (p := ⟨Z, 0, none⟩) (Nat.le_refl _) (.string (mn x.1 y1))).setCell (p := ⟨Z, 1, none⟩) (Nat.le_refl _) (.string (mx x.2 y2)))
          have HY4 := Lib.hid hy4
          have HY5 := Lib.hid hy5
          have HD5 := Lib.hid hd5
          have p0 := hd.cell 0 _ rfl
          have f0 := hd.frozen 0
          have p1 := hd4.cell 1 _ rfl
          have f1 := hd4.frozen 1
          clear hd hdo hdb hyd hd4 hy4 hd5 hy5 ho5
          refine PlanG.step rfl rfl (fun Kk hK => ?_)
          go_simp
          refine hK.out _ _ HY4.out ?_
          clear hK Kk p0 f0
          (try simp only [Act.put, List.setIfInBounds_toArray, List.set_cons_zero, List.set_cons_succ])
          iterate 2 (refine PlanG.take2 (v := ?_) rfl rfl ?_ ?_; rotate_left; (focus (intro W hW; go_simp; (try with_reducible rfl); done)); (try simp only [Act.put, List.setIfInBounds_toArray, List.set_cons_zero, List.set_cons_succ]))
          refine PlanG.step rfl rfl (fun Kk hK => ?_)
          go_simp
          refine hK.out _ _ HY5.out ?_
          clear hK Kk p1 f1
          (try simp only [Act.put, List.setIfInBounds_toArray, List.set_cons_zero, List.set_cons_succ])
          simp only [PlanG]
          generalize (w5.setCell ⟨Z, 0, none⟩ (.string (mn x.1 y1))).setCell ⟨Z, 1, none⟩ (.string (mx x.2 y2)) = w6 at HO5 HB5 HY5 HD5 ⊢
          clear HY4 HY5
          go_wp2_with fail
          go_roundw
          case rel => exact ⟨i + 1, (mn x.1 y1, mx x.2 y2), R, Ar, cr, by omega, by go_num, rfl, by omega, HO5, HD5, HINV, HB5⟩
          case measure => simp [intOf]; omega
        · have hx12 : x.1 < x.2 := by have h1 := HI.out.wide; have h2 := HS.out; grind
          have hwo := without_any (y1, y2) [x] (.slice (some ⟨w3.heap.size, 0, none⟩) 1 1) (w3.alloc (.cells #[.string x.1, .string x.2] 24)) (RdS.oneS w3 x) (by simp)
          have HWO := Lib.hid hwo
          have HX12 := Lib.hid hx12
          have HZ3 := Lib.hid hz3
          clear hwo hx12 hz3 HSAME
          go_wp2_with fail
          have HW3 := Lib.hid hw3; clear hw3
          refine HWO.out.mono ?_
          rintro e w5 ⟨v', Wl, rfl, ho5, hb5, hn5, hm5, -⟩
          have hfit : Fits Wl (fun k => has (y1, y2) k ∧ ¬ has x k) := ⟨hn5, fun k => (hm5 k).trans (by rw [mem_cons]; simp [mem_nil])⟩
          have hw2 := without_len hfit HX12.out
          have hinv := HOTH.out hv Wl hfit
          have hzw : wr.heap.size < w3.heap.size := by have := HZ3.out; omega
          have hb35 : Below w3.heap.size w3 w5 := ((Below.refl _ w3).alloc (Nat.le_refl _) _).trans (hb5.mono (by simp))
          have HX5 := Lib.hid (HX3.out.below hb35 HX3.out.size)
          have HBX5 := Lib.hid (HBX3.out.below hb35 HBX3.out.size)
          have HOR5 := Lib.hid (HOR3.out.below hb35 (Nat.le_refl _))
          have HBW5 := Lib.hid (HBW3.out.trans (hb35.mono (by omega)))
          have HINV := Lib.hid hinv
          have hzo5 : wr.heap.size < w5.heap.size := HX5.out.size
          have HNE5 := Lib.hid (show ∀ g, Value.ownBlock (.slice Ar R.length cr) = some g → g ≠ wr.heap.size from fun g hg => by have := HROW3.out g hg; omega)
          obtain ⟨A5, c5, hv5, -⟩ := ho5.read
          subst hv5
          have HO5 := Lib.hid ho5
          clear ho5 hb5 hn5 hm5 hfit hinv hb35 hzw x0 x1 x2 y0 y1' y2' k0 k1 k2 HX3 HBX3 HOR3 HBW3 HW3 HWO HOTH HX12 HROW3 HZ3
          generalize w3.alloc (.cells #[.string x.1, .string x.2] 24) = w4 at HO5
          generalize w4.heap.size = b5 at HO5
          obtain ⟨zo, hzo⟩ : ∃ zo, zo = wr.heap.size := ⟨_, rfl⟩
          rw [← hzo] at HX5 hzo5 HNE5 ⊢
          have HZO := Lib.hid hzo; clear hzo
          go_wp2_with fail
          go_loopw [6, 60] (fun rv jv wq => ∃ (j : Nat) (R2 : List Wr) (A2 : Option Addr) (c2 : Nat), j ≤ Wl.length ∧ jv = .int .i64 (j : Int) ∧ rv = .slice A2 R2.length c2 ∧ Hid (R2 = R ++ (Wl.take j).map fun u => ⟨u, yv⟩) ∧ R2.length ≤ R.length + j ∧ Hid (OwnMk wq (Z + 1) (.slice A2 R2.length c2) R2) ∧ Hid (∀ g, Value.ownBlock (.slice A2 R2.length c2) = some g → g ≠ zo) ∧ Hid (Whole wq Z 60 [.string x.1, .string x.2, .int .i64 v]) ∧ Hid (Whole wq zo 60 [.string y1, .string y2, .int .i64 yv]) ∧ Hid (OwnS wq b5 (.slice A5 Wl.length c5) Wl) ∧ Hid (Below Z w wq)) (fun _ jv _ => Wl.length - (intOf jv).toNat)
          case atStart => exact ⟨0, R, Ar, cr, Nat.zero_le _, rfl, rfl, Lib.hid (by simp), by omega, HOR5, HNE5, HBX5, HX5, HO5, HBW5⟩
          case round =>
            obtain ⟨j, R2, A2, c2, hjl, rfl, rfl, HR2, hR2l, HOQ, HNQ, HBQ, HYQ, HWQ, HBB⟩ := hrel
            clear HX5 HBX5 HOR5 HBW5 HNE5 HO5
            have hZq := HBQ.out.size
            have hzoq := HYQ.out.size
            by_cases hjlt : j < Wl.length
            · obtain ⟨A6, c6, ev6, hcel⟩ := HWQ.out.read
              injection ev6 with e61 e62 e63
              subst e61
              clear e62 e63
              obtain ⟨gw, rfl, _, hgw, u0, u1⟩ := hcel j hjlt
              have hnext : R2 ++ [(⟨Wl[j], yv⟩ : Wr)] = R ++ (Wl.take (j + 1)).map fun u => ⟨u, yv⟩ := by
                rw [HR2.out, List.take_add_one, List.getElem?_eq_getElem hjlt, List.map_append, List.append_assoc]; rfl
              clear hcel
              generalize Wl[j] = u at u0 u1 hnext
              obtain ⟨u1', u2'⟩ := u
              simp only at u0 u1 hnext
              obtain ⟨w6, hw6⟩ : ∃ w6, wr.alloc (.cells #[.string u1', .string u2'] 24) = w6 := ⟨_, rfl⟩
              have hb6 : Below wr.heap.size wr w6 := by rw [← hw6]; exact (Below.refl _ _).alloc (Nat.le_refl _) _
              have hz6 : w6.heap.size = wr.heap.size + 1 := by rw [← hw6]; simp
              have hs6 : Whole w6 wr.heap.size 24 [.string u1', .string u2'] := by rw [← hw6]; exact Whole.fresh wr _ [_, _]
              have hy6 : Whole w6 zo 60 [.string y1, .string y2, .int .i64 yv] := HYQ.out.below hb6 hzoq
              have hb7 : Below wr.heap.size wr (w6.alloc (.cells #[.string u1', .string u2', .int .i64 yv] 60)) := hb6.alloc (by omega) _
              have ho7 := HOQ.out.below hb7 (Nat.le_refl _)
              have q0 := hs6.cell 0 _ rfl
              have q1 := hs6.cell 1 _ rfl
              have q2 := hy6.cell 2 _ rfl
              have HO7 := Lib.hid ho7
              have HB7 := Lib.hid hb7
              have HNX := Lib.hid hnext
              have HZ6 := Lib.hid hz6
              have hbs7 : Z + 1 ≤ (w6.alloc (.cells #[.string u1', .string u2', .int .i64 yv] 60)).heap.size := by have := hb7.size; omega
              have hR2b : R2.length + 1 ≤ 1000000 := by omega
              clear hb6 hs6 hy6 hb7 ho7 hnext hz6
              go_wp2_with (at_builtin; go_must (refine wpList_addK rfl _ _ rfl (Z + 1) (.slice A2 R2.length c2) R2 rfl HO7.out (w6.heap.size + 1) (.slice (some ⟨w6.heap.size, 0, none⟩) 1 1) [⟨(u1', u2'), yv⟩] rfl (RdMk.one w6 ⟨(u1', u2'), yv⟩) hR2b hbs7 ?_))
              intro A8 c8 w8 ho8 hg8 hn8
              have HW6 := Lib.hid hw6; clear hw6
              have hrowne : Value.ownBlock (.slice A2 R2.length c2) ≠ some Z := fun e => by have := (HO7.out.low (i := Z) e).1; omega
              have hx8 : Whole w8 Z 60 [.string x.1, .string x.2, .int .i64 v] := (HBQ.out.below HB7.out hZq).grown hg8.out (fun e => hrowne e.symm)
              have hy8 : Whole w8 zo 60 [.string y1, .string y2, .int .i64 yv] := (HYQ.out.below HB7.out hzoq).grown hg8.out (fun e => HNQ.out zo e.symm rfl)
              have hw8 : OwnS w8 b5 (.slice (some ⟨gw, 0, none⟩) Wl.length c5) Wl := (HWQ.out.below HB7.out (Nat.le_refl _)).kept hg8.out (.inr fun e => Own.apartM (e := 24) (enc := cellsS) (k := 2) (HWQ.out.below HB7.out (Nat.le_refl _)) HO7.out (by decide) (g := gw) rfl e.symm)
              have hb8 : Below Z w w8 := HO7.out.grown (HBB.out.trans (HB7.out.mono (by omega))) hg8.out (by omega) (by omega)
              have hne8 : ∀ g, Value.ownBlock (.slice A8 (R2.length + 1) c8) = some g → g ≠ zo := fun g hg => by
                rcases hn8.out g hg with h1 | h1
                · exact HNQ.out g h1
                · have := HB7.out.size; omega
              have HX8 := Lib.hid hx8
              have HY8 := Lib.hid hy8
              have HWS8 := Lib.hid hw8
              have HB8 := Lib.hid hb8
              have HNE8 := Lib.hid hne8
              have hlen8 : (R2 ++ [(⟨(u1', u2'), yv⟩ : Wr)]).length = R2.length + 1 := by rw [List.length_append, List.length_cons, List.length_nil]
              clear hrowne hx8 hy8 hw8 hb8 hne8 hg8 hn8 q0 q1 q2 u0 u1
              have HNX2 := Lib.hid HNX.out
              generalize R2 ++ [(⟨(u1', u2'), yv⟩ : Wr)] = R3 at ho8 hlen8 HNX2 ⊢
              have HL3 := Lib.hid hlen8
              clear HNX hlen8
              go_wp2_with fail
              go_roundw
              case rel => exact ⟨j + 1, R3, A8, c8, by omega, by go_num, by rw [HL3.out], HNX2, by rw [HL3.out]; omega, by rw [HL3.out]; exact ho8, by rw [HL3.out]; exact HNE8, HX8, HY8, HWS8, HB8⟩
              case measure => simp [intOf]; omega
            · obtain rfl : j = Wl.length := by omega
              have hr2 : R2 = R ++ Wl.map fun u => ⟨u, yv⟩ := by have h1 := HR2.out; rwa [List.take_length] at h1
              have hinv2 : WInv f s v (M.take (i + 1)) x R2 := by rw [hr2]; exact HINV.out
              have HINV2 := Lib.hid hinv2
              clear hr2 hinv2 HR2 HINV
              go_wp2_with fail
              go_roundw
              case rel => exact ⟨i + 1, x, R2, A2, c2, by omega, by go_num, rfl, by omega, HOQ, HBQ, HINV2, HBB⟩
              case measure => simp [intOf]; omega
      · obtain rfl : i = N := by omega
        have hinv := HI.out
        rw [List.take_of_length_le (by rw [HML.out]; exact Nat.le_refl _), HM.out] at hinv
        have HINV := Lib.hid hinv
        have x0 := HBX.out.cell 0 _ rfl
        have x1 := HBX.out.cell 1 _ rfl
        have x2 := HBX.out.cell 2 _ rfl
        have hb4 : Below wr.heap.size wr (wr.alloc (.cells #[.string x.1, .string x.2, .int .i64 v] 60)) := (Below.refl _ _).alloc (Nat.le_refl _) _
        have ho4 := HOR.out.below hb4 (Nat.le_refl _)
        have HO4 := Lib.hid ho4
        have HB4 := Lib.hid hb4
        have hbs4 : Z + 1 ≤ (wr.alloc (.cells #[.string x.1, .string x.2, .int .i64 v] 60)).heap.size := by simp; omega
        have hRb : R.length + 1 ≤ 1000000 := by omega
        have hRb2 : R.length + 1 ≤ 2 * i + 1 := by omega
        have HRB2 := Lib.hid hRb2
        clear hinv hb4 ho4 HI hRb2 HSUB
        go_wp2_with (at_builtin; go_must (refine wpList_addK rfl _ _ rfl (Z + 1) (.slice Ar R.length cr) R rfl HO4.out (wr.heap.size + 1) (.slice (some ⟨wr.heap.size, 0, none⟩) 1 1) [⟨x, v⟩] rfl (RdMk.one wr ⟨x, v⟩) hRb hbs4 ?_))
        intro A5 c5 w5 ho5 hg5 hn5
        have hbw5 : Below Z w w5 := HO4.out.grown (HB.out.trans (HB4.out.mono (by omega))) hg5.out (by omega) (by omega)
        have hl5 : (R ++ [(⟨x, v⟩ : Wr)]).length = R.length + 1 := by rw [List.length_append, List.length_cons, List.length_nil]
        have hso := sortM_any w5 (Z + 1) (.slice A5 (R.length + 1) c5) (R ++ [⟨x, v⟩]) (by have h := ho5.out; simpa only [List.length_append, List.length_cons, List.length_nil] using h) (by rw [hl5]; omega)
        have HSO := Lib.hid hso
        have HBW5 := Lib.hid hbw5
        have HL5 := Lib.hid hl5
        have hz5 : Z + 1 ≤ w5.heap.size := Nat.le_trans hbs4 hg5.out.size
        clear hso hbw5 hl5 x0 x1 x2 ho5 hg5 hn5 HO4 HB4 HB HOR HBX
        go_wp2_with fail
        refine HSO.out.mono ?_
        rintro e w6 ⟨rfl, S, ho6, hg6, hperm, hsort⟩
        have hSl : S.length = R.length + 1 := by rw [← hperm.length_eq]; exact HL5.out
        have hbw6 : Below Z w w6 := by
          obtain ⟨_, hlow⟩ : True ∧ ∀ g, Value.ownBlock (.slice A5 (R.length + 1) c5) = some g → Z ≤ g := ⟨trivial, fun g hg => by have := (ho6.low hg).1; omega⟩
          exact ⟨hg6.os.trans HBW5.out.os, hg6.tape.trans HBW5.out.tape, hg6.output.trans HBW5.out.output, Nat.le_trans HBW5.out.size hg6.size, fun k hk => (hg6.block k (Nat.lt_of_lt_of_le (by omega) hz5) (fun e => by have := hlow k e.symm; omega)).trans (HBW5.out.block k hk)⟩
        have hrep2 := WInv.done (f := f) (b := b) HREP.out HS.out hbv HBS.out HINV.out hperm hsort
        have hq6 : Whole w6 q 51 [.int .i64 floor, .slice A L.length cap] := HW.out.below hbw6 hqs
        have ho6' : OwnMk w6 base (.slice A L.length cap) L := HOWN.out.below hbw6 (by rw [HZ.out]; exact Nat.le_refl _)
        have hsrc : SrcK w6 (.slice A L.length cap) S (.slice A5 (R.length + 1) c5) := ho6.src (fun e => by rw [e] at hSl; simp at hSl) (fun g hg => by have := HROW.out g (HOV.out ▸ hg); omega)
        have hrp := sreplace_any L lo hi HBS.out.le hhl S (fun e => by rw [e] at hSl; simp at hSl) (fun e => by have h1 := HRB2.out; have h2 := HN.out; omega) (.slice A L.length cap) (.slice A5 (R.length + 1) c5) w6 base ho6' (by have h1 := hbw6.size; have h2 := HZ.out; omega) hsrc (by have := HRB2.out; omega)
        obtain ⟨L2, hL2⟩ : ∃ L2, L2 = L.take lo ++ S ++ L.drop hi := ⟨_, rfl⟩
        rw [← hL2] at hrp hrep2
        clear hL2
        have c1 := hq6.cell 1 _ rfl
        have HRP := Lib.hid hrp
        have HREP2 := Lib.hid hrep2
        have HBW6 := Lib.hid hbw6
        clear hrep2 hq6 ho6' hsrc hrp hbw6 ho6 hg6 hperm hsort hSl hz5 HSO
        go_wp2_with fail
        refine HRP.out.mono ?_
        rintro e w7 ⟨A7, c7, rfl, ho7, hg7, hn7⟩
        rw [HOV.out] at hg7 hn7
        obtain ⟨s1, ⟨uu, s2⟩, s3, s4⟩ := HP.out.store (show Below w.heap.size w w6 by rw [← HZ.out]; exact HBW6.out) hg7 rfl ho7 hn7
        have HS1 := Lib.hid s1
        clear s1 ho7 hg7 hn7 c1
        go_wp2_with fail
        go_end0
        exact ⟨rfl, _, _, HS1.out, HREP2.out⟩
end Go.Proofs.Ytcmpbhcldaogiaa
namespace Go.Proofs.Ytcmpbhcldaogiaa
theorem xor_nat (k : IntKind) (j : Nat) (hj : j ≤ k.bits) (hk : ∀ n : Int, 0 ≤ n → n < 2 ^ j → k.wrap n = n) (a b : Nat) (ha : a < 2 ^ j) (hb : b < 2 ^ j) : bits .xor k a b = ((a ^^^ b : Nat) : Int) := by
  have hp : 2 ^ j ≤ 2 ^ k.bits := Nat.pow_le_pow_right (by decide) hj
  have ha' : a % 2 ^ k.bits = a := Nat.mod_eq_of_lt (Nat.lt_of_lt_of_le ha hp)
  have hb' : b % 2 ^ k.bits = b := Nat.mod_eq_of_lt (Nat.lt_of_lt_of_le hb hp)
  simp only [bits, BitVec.ofInt_natCast, BitVec.toNat_xor, BitVec.toNat_ofNat, ha', hb']
  exact hk _ (Int.natCast_nonneg _) (by exact_mod_cast Nat.xor_lt_two_pow ha hb)
theorem xor32 {a b : Nat} (ha : a < 2 ^ 32) (hb : b < 2 ^ 32) : bits .xor .u32 (a : Int) (b : Int) = ((a ^^^ b : Nat) : Int) := xor_nat .u32 32 (by decide) wraps_u32 a b ha hb
theorem xor8 {a b : Nat} (ha : a < 2 ^ 8) (hb : b < 2 ^ 8) : bits .xor .u8 (a : Int) (b : Int) = ((a ^^^ b : Nat) : Int) := xor_nat .u8 8 (by decide) wraps_u8 a b ha hb
end Go.Proofs.Ytcmpbhcldaogiaa
