/- The program's shelf at its blocks. was, unsound, Ends. Take. What Open answers, its bytes held in a block of the call's own; bytes out of a text. The records that bytes begin with, as the program reads them. What the program's Open leaves. -/
import Derived.Test.YtbifnogocmgddaaGreatFai
import Derived.Test.YtbifnogocmgddaaGreatFam
import Derived.Test.YtbifnogocmgddaaGreatFao
import Derived.Test.YtbifnogocmgddaaGreatFap
import Derived.Test.YtbifnogocmgddaaGreatFaj
import Derived.Test.YtbifnogocmgddaaGreatFab
import Derived.Test.YtbifnogocmgddaaGreatFak
import Derived.Test.YtbifnogocmgddaaGreatFal
namespace Go.Proofs.YtbifnogocmgddaaGreat
open Go.RowKit
attribute [local go_sem] less_eq same_eq le_eq ge_eq gt_eq

/-- a shelf: its span, up to which version, what its keys are there -/
structure Sh where
  sp : K × K
  last : Int
  at_ : List (K × K)
def Sh.take (s : Sh) (p v : Int) (cs : List Chg) : Int × Sh := if v ≤ s.last then (0, s) else if s.last < p ∨ v ≤ p then (9, s) else (0, ⟨s.sp, v, applyP s.at_ (cutP s.sp cs)⟩)
def Sh.list (s : Sh) (x : K × K) (most : Int) : List (K × K) := (s.at_.filter (fun p => hasB (meet x s.sp) p.1)).take most.toNat
/-- the tape, the book of none -/
def tp0 (room : Int) : Tp := ⟨[], [], room, -1, false⟩
def bk0 (room : Int) : Bks := ⟨[], false, tp0 room⟩
/-- a new tape at block p -/
def TpNew (w : World) (base p : Nat) (room : Int) : Prop := TapeAt w base p none (tp0 room)
/-- a shelf at block q, its book at qb, its past at qp; nothing was saved yet -/
structure ShIs (w : World) (base q qb pb qp : Nat) (Gb Gp G : Nat → Prop) (m : Nat) (s : Sh) (p : Pa) (room : Int) : Prop where
  blk : Whole w q 65 [.pointer (some ⟨qp, 0, none⟩), .string s.sp.1, .string s.sp.2, .pointer (some ⟨qb, 0, none⟩), .bool false]
  bk : BkAt w base qb pb Gb (bk0 room)
  pa : PaAt w base qp Gp m p
  room : 1000 ≤ room ∧ room ≤ 1048576
  val : p.first = 0 ∧ p.last = s.last ∧ p.at_ p.last = s.at_
  inn : ∀ x ∈ s.at_, has s.sp x.1
  sp : s.sp.1 < s.sp.2 ∧ s.sp.1.size ≤ 17 ∧ s.sp.2.size ≤ 17
  off : ¬ Gb q ∧ ¬ Gp q ∧ ∀ i, Gb i → ¬ Gp i
  sub : G q ∧ (∀ i, Gb i → G i) ∧ ∀ i, Gp i → G i
  low : base ≤ w.heap.size ∧ ∀ i, G i → base ≤ i ∧ i < w.heap.size
def ShAt (w : World) (base q : Nat) (G : Nat → Prop) (n : Nat) (s : Sh) : Prop := ∃ qb pb qp Gb Gp m p room, m ≤ n ∧ ShIs w base q qb pb qp Gb Gp G m s p room
section
variable {w w' : World} {base q qb pb qp m n : Nat} {Gb Gp G : Nat → Prop} {s : Sh} {p : Pa} {room : Int}
theorem ShIs.mv {D : Nat → Prop} (k : ShIs w base q qb pb qp Gb Gp G m s p room) (hm : Mv D w w') (hn : ∀ i, G i → ¬ D i) : ShIs w' base q qb pb qp Gb Gp G m s p room :=
  ⟨hm.whole k.blk (hn q k.sub.1), k.bk.mv hm (fun i hi => hn i (k.sub.2.1 i hi)), k.pa.mv hm (fun i hi => hn i (k.sub.2.2 i hi)), k.room, k.val, k.inn, k.sp, k.off, k.sub, Nat.le_trans k.low.1 hm.size, fun i hi => ⟨(k.low.2 i hi).1, Nat.lt_of_lt_of_le (k.low.2 i hi).2 hm.size⟩⟩
theorem ShIs.new (k : ShIs w base q qb pb qp Gb Gp G m s p room) (hb : Below w.heap.size w w') : ShIs w' base q qb pb qp Gb Gp G m s p room := k.mv (Mv.of_new hb (fun _ => False)) (fun _ _ h => h)
theorem ShIs.at (k : ShIs w base q qb pb qp Gb Gp G m s p room) (h : m ≤ n) : ShAt w base q G n s := ⟨qb, pb, qp, Gb, Gp, m, p, room, h, k⟩
theorem ShAt.low (k : ShAt w base q G n s) : base ≤ w.heap.size ∧ ∀ i, G i → base ≤ i ∧ i < w.heap.size := by
  obtain ⟨_, _, _, _, _, _, _, _, _, k⟩ := k
  exact k.low
theorem ShAt.mv {D : Nat → Prop} (k : ShAt w base q G n s) (hm : Mv D w w') (hn : ∀ i, G i → ¬ D i) : ShAt w' base q G n s := by
  obtain ⟨_, _, _, _, _, _, _, _, h, k⟩ := k
  exact (k.mv hm hn).at h
/-- behind a call that moves the past alone -/
theorem ShIs.past {Gp' : Nat → Prop} {m' : Nat} {s' : Sh} {p' : Pa} (k : ShIs w base q qb pb qp Gb Gp G m s p room) (hp : PaAt w' base qp Gp' m' p') (hg : ∀ i, Gp' i → Gp i ∨ w.heap.size ≤ i) (hm : Mv Gp w w') (hv : p'.first = 0 ∧ p'.last = s'.last ∧ p'.at_ p'.last = s'.at_) (hi : ∀ x ∈ s'.at_, has s'.sp x.1) (hs : s'.sp = s.sp) :
    ShIs w' base q qb pb qp Gb Gp' (fun i => G i ∨ Gp' i) m' s' p' room := by
  have hq := k.off
  have hql := (k.low.2 q k.sub.1).2
  refine ⟨by rw [hs]; exact hm.whole k.blk hq.2.1, k.bk.mv hm (fun i hi => hq.2.2 i hi), hp, k.room, hv, hi, by rw [hs]; exact k.sp, ⟨hq.1, fun h => ?_, fun i hi h => ?_⟩, ⟨.inl k.sub.1, fun i hi => .inl (k.sub.2.1 i hi), fun i hi => .inr hi⟩, hp.low.1, ?_⟩
  · rcases hg q h with h | h
    · exact hq.2.1 h
    · omega
  · rcases hg i h with h | h
    · exact hq.2.2 i hi h
    · have := (k.low.2 i (k.sub.2.1 i hi)).2
      omega
  · rintro i (hi | hi)
    · exact ⟨(k.low.2 i hi).1, Nat.lt_of_lt_of_le (k.low.2 i hi).2 hm.size⟩
    · exact hp.low.2 i hi
end
theorem small_ok {c : Chg} (h : checkAns c = 0) : smallC c ∧ c.key.size ≤ 17 ∧ (c.kind = 3 → c.val.size ≤ 17) := by
  unfold checkAns at h
  unfold smallC
  split at h
  · rename_i h1
    split at h
    · cases h
    · refine ⟨⟨by omega, by omega⟩, by omega, by omega⟩
  · split at h
    · rename_i h1 h2
      split at h
      · cases h
      · refine ⟨⟨by omega, by omega⟩, by omega, by omega⟩
    · split at h
      · split at h
        · cases h
        · refine ⟨⟨by omega, by omega⟩, by omega, by omega⟩
      · cases h
theorem cspanS_17 {c : Chg} (h : checkAns c = 0) : (cspan c).1.size ≤ 17 ∧ (c.kind = 3 → (cspan c).2.size ≤ 17) := by
  obtain ⟨_, h2, h3⟩ := small_ok h
  unfold cspan
  split
  · exact ⟨h2, fun h => h3 h⟩
  · exact ⟨h2, fun h => by contradiction⟩
theorem cut_check (s : K × K) (hs : s.1.size ≤ 17 ∧ s.2.size ≤ 17) {cs : List Chg} (h : allAns cs = 0) : allAns (cutP s cs) = 0 := by
  refine allAns_ok fun d hd => ?_
  obtain ⟨c, hcc, hd⟩ := List.mem_flatMap.1 hd
  have h0 := allAns_all h c hcc
  have h17 := cspanS_17 h0
  unfold cut1 at hd
  split at hd
  · rename_i hk
    split at hd
    · rename_i hm
      simp only [List.mem_singleton] at hd
      subst hd
      have h172 := h17.2 hk
      have hm2 := hm
      unfold meet at hm2 ⊢
      by_cases he : mn s.2 (cspan c).2 ≤ mx s.1 (cspan c).1
      · rw [if_pos he] at hm2
        exact absurd hm2 (show ¬ ((⟨#[]⟩ : K) < ⟨#[]⟩) by grind)
      · rw [if_neg he] at hm2 ⊢
        simp only at hm2 ⊢
        have e1 : (mx s.1 (cspan c).1).size ≤ 17 := by rcases mx_cases s.1 (cspan c).1 with ⟨_, h⟩ | ⟨_, h⟩ <;> rw [h] <;> omega
        have e2 : (mn s.2 (cspan c).2).size ≤ 17 := by rcases mn_cases s.2 (cspan c).2 with ⟨_, h⟩ | ⟨_, h⟩ <;> rw [h] <;> omega
        unfold checkAns
        simp only
        rw [if_neg (by decide), if_neg (by decide), if_pos trivial, if_neg (by omega), if_neg (by grind)]
    · simp at hd
  · split at hd
    · simp only [List.mem_singleton] at hd
      subst hd
      exact h0
    · simp at hd
theorem cut_inn (s : K × K) (l : List (K × K)) (cs : List Chg) (h : ∀ x ∈ l, has s x.1) : ∀ x ∈ applyP l (cutP s cs), has s x.1 :=
  all_applyP (R := fun p => has s p.1) h (fun c hc => by
    obtain ⟨d, _, hd⟩ := List.mem_flatMap.1 hc
    exact cut1_key s d c hd)
theorem at_add (p : Pa) {v : Int} {cs : List Chg} (h1 : ¬ v ≤ p.last) (h2 : allAns cs = 0) : p.add v cs = (0, { p with last := v, l := p.l ++ [(v, applyP (p.at_ p.last) cs)] }) ∧ Pa.at_ { p with last := v, l := p.l ++ [(v, applyP (p.at_ p.last) cs)] } v = applyP (p.at_ p.last) cs := by
  constructor
  · unfold Pa.add
    rw [if_neg h1, if_neg (by rw [h2]; decide)]
  · unfold Pa.at_
    simp only
    rw [atL_snoc, if_pos (Int.le_refl _)]
theorem tnew_dry (room : Int) (h1 : 1000 ≤ room) (h2 : room ≤ 1048576) (w : World) :
    Calls Tryz.prog 6 #[.int .i64 room] w fun e w' => ∃ p, e = .returned (.tuple #[.pointer (some ⟨p, 0, none⟩), .int .i64 0]) ∧ TpNew w' w.heap.size p room ∧ Below w.heap.size w w' := new_any room (by omega) h2 w
end Go.Proofs.YtbifnogocmgddaaGreat
namespace Go.Proofs.YtbifnogocmgddaaGreat
open Go.RowKit
attribute [local go_sem] less_eq same_eq le_eq ge_eq gt_eq

set_option maxHeartbeats 1000000 in
set_option maxRecDepth 100000 in
theorem shwas_any (q qp : Nat) (w : World) (h : w.cell? ⟨q, 0, none⟩ = some (.pointer (some ⟨qp, 0, none⟩))) : Calls Tryz.prog 26 #[.pointer (some ⟨q, 0, none⟩)] w fun e w' => e = .returned (.pointer (some ⟨qp, 0, none⟩)) ∧ w' = w := by
  go_enter Tryz.func26, Tryz.ntmps26
  go_wp2_with fail
  go_ret
  exact ⟨rfl, rfl⟩
set_option maxHeartbeats 1000000 in
set_option maxRecDepth 100000 in
theorem shwas_none (w : World) : Calls Tryz.prog 26 #[.pointer none] w fun e w' => e = .returned (.pointer none) ∧ w' = w := by
  go_enter Tryz.func26, Tryz.ntmps26
  go_wp2_with fail
  go_ret
  exact ⟨rfl, rfl⟩
set_option maxHeartbeats 2000000 in
set_option maxRecDepth 100000 in
theorem unsound_ok (p v : Int) (hp : 0 ≤ p ∧ p < 4611686018427387904) (hv : 0 ≤ v ∧ v < 4611686018427387904) (cs : List Chg) (hc : allAns cs = 0) (hl : cs.length ≤ 1000) (sl : Value) (w : World) (hr : RdC w w.heap.size sl cs) :
    Calls Tryz.prog 23 #[.agg #[.int .i64 p, .int .i64 v, .int .i64 0, sl]] w fun e w' => e = .returned (.bool false) ∧ Below w.heap.size w w' := by
  have hsm : ∀ x ∈ cs, smallC x := fun x hx => (small_ok (allAns_all hc x hx)).1
  obtain ⟨w1, hw1⟩ : ∃ w1, w1 = w.alloc (.cells #[.int .i64 p, .int .i64 v, .int .i64 0, sl] 35) := ⟨_, rfl⟩
  have hb1 : Below w.heap.size w w1 := by rw [hw1]; exact (Below.refl _ w).alloc (Nat.le_refl _) _
  have HPUT := Lib.hid (pputB_ok ⟨p, v, 0, cs⟩ ⟨⟨hp.1, hv.1, Int.le_refl _⟩, by show cs.length ≤ 4096; omega, hc⟩ ⟨by show p < _; omega, by show v < _; omega, by show (0 : Int) < _; decide⟩ ⟨by show cs.length < _; omega, hsm⟩ sl w1 (Rd.next hr hb1))
  have HB1 := Lib.hid hb1
  clear hb1 hr hsm hc hl hp hv
  go_enter Tryz.func23, Tryz.ntmps23
  go_wp2_with fail
  rw [← hw1]
  clear hw1
  refine HPUT.out.mono ?_
  rintro e w2 ⟨v2, rfl, -, hb2⟩
  have HB2 := Lib.hid (HB1.out.trans (hb2.mono HB1.out.size))
  clear hb2 HPUT HB1
  go_wp2_with fail
  go_ret
  exact ⟨rfl, HB2.out⟩
theorem PaAt.fl {w : World} {base q n : Nat} {G : Nat → Prop} {p : Pa} (h : PaAt w base q G n p) : p.first ≤ p.last := by obtain ⟨_, _, _, _, _, _, _, h4, _⟩ := h.blk; exact h4.fl
set_option maxHeartbeats 4000000 in
set_option maxRecDepth 100000 in
theorem shends_any (base q n : Nat) (G : Nat → Prop) (s : Sh) (w : World) (h : ShAt w base q G n s) :
    Calls Tryz.prog 12 #[.pointer (some ⟨q, 0, none⟩)] w fun e w' => e = .returned (.tuple #[.int .i64 0, .int .i64 s.last]) ∧ Below w.heap.size w w' := by
  obtain ⟨qb, pb, qp, Gb, Gp, m, pa, room, -, k⟩ := h
  have hend := pends_any base qp m Gp pa w k.pa
  rw [k.val.1, k.val.2.1] at hend
  have HW := Lib.hid (shwas_any q qp w (k.blk.cell 0 _ rfl))
  have HEND := Lib.hid hend
  clear hend k
  go_enter Tryz.func12, Tryz.ntmps12
  go_wp2_with fail
  refine HW.out.mono ?_
  rintro e w1 ⟨rfl, rfl⟩
  go_wp2_with fail
  refine HEND.out.mono ?_
  rintro e w1 ⟨rfl, hb⟩
  go_wp2_with fail
  go_ret2
  exact ⟨rfl, hb⟩
end Go.Proofs.YtbifnogocmgddaaGreat
namespace Go.Proofs.YtbifnogocmgddaaGreat
open Go.RowKit
attribute [local go_sem] less_eq same_eq le_eq ge_eq gt_eq

set_option maxHeartbeats 16000000 in
set_option maxRecDepth 100000 in
theorem shtake_any (base q n : Nat) (G : Nat → Prop) (s : Sh) (p v : Int) (hp : 0 ≤ p ∧ p < 4611686018427387904) (hv : 0 ≤ v ∧ v < 4611686018427387904) (cs : List Chg) (hc : allAns cs = 0) (hl : cs.length ≤ 1000) (sl : Value) (w : World) (h : ShAt w base q G n s) (hr : RdG encC 3 w w.heap.size G sl cs) (hn : n ≤ 100000) :
    Calls Tryz.prog 10 #[.pointer (some ⟨q, 0, none⟩), .agg #[.int .i64 p, .int .i64 v, .int .i64 0, sl]] w fun o w' => o = .returned (.int .i64 (s.take p v cs).1) ∧ ∃ G', ShAt w' base q G' (n + 1000) (s.take p v cs).2 ∧ (∀ i, G' i → G i ∨ w.heap.size ≤ i) ∧ Mv G w w' := by
  obtain ⟨qb, pb, qp, Gb, Gp, m, pa, room, hm, k⟩ := h
  obtain ⟨A, c, rfl, -, -⟩ := hr.rd
  obtain ⟨⟨s1, s2⟩, last, at_⟩ := s
  obtain ⟨bb, hbb⟩ : ∃ bb, bb = w.heap.size := ⟨_, rfl⟩
  have hall := allAns_all hc
  have hsm : ∀ x ∈ cs, smallC x := fun x hx => (small_ok (hall x hx)).1
  have hval := k.val
  simp only at hval
  have hI : I64 v := by unfold I64; omega
  obtain ⟨w1, hw1⟩ : ∃ w1, w1 = w.alloc (.cells #[.int .i64 p, .int .i64 v, .int .i64 0, .slice A cs.length c] 35) := ⟨_, rfl⟩
  have hb1 : Below w.heap.size w w1 := by rw [hw1]; exact (Below.refl _ w).alloc (Nat.le_refl _) _
  have hB1 : Whole w1 bb 35 [.int .i64 p, .int .i64 v, .int .i64 0, .slice A cs.length c] := by rw [hw1, hbb]; exact Whole.fresh w _ [_, _, _, _]
  have hr1 := Rd.next hr.rd hb1
  have hput := unsound_ok p v hp hv cs hc hl (.slice A cs.length c) w1 hr1
  have hqs := (k.low.2 q k.sub.1).2
  have hS : Whole w1 q 65 [.pointer (some ⟨qp, 0, none⟩), .string s1, .string s2, .pointer (some ⟨qb, 0, none⟩), .bool false] := k.blk.below hb1 hqs
  have hbG : ∀ i, G i → i ≠ bb := fun i hi e => by have := (k.low.2 i hi).2; omega
  have HPUT := Lib.hid hput
  have HK := Lib.hid k
  have HR := Lib.hid hr
  have HB1 := Lib.hid hb1
  have HBB := Lib.hid hB1
  have HS := Lib.hid hS
  have HALL := Lib.hid (And.intro hc (And.intro hsm hall))
  have HM := Lib.hid (And.intro hm (And.intro hn hl))
  have HBG := Lib.hid hbG
  have HBE := Lib.hid hbb
  have HV := Lib.hid hval
  have HI := Lib.hid hI
  have HIN := Lib.hid (cut_inn (s1, s2) at_ cs k.inn)
  clear k hr hb1 hB1 hS hall hsm hc hm hn hl hput hr1 hbG hval hI hqs
  obtain ⟨T, hT⟩ : ∃ T, T = Sh.take ⟨(s1, s2), last, at_⟩ p v cs := ⟨_, rfl⟩
  rw [← hT]
  unfold Sh.take at hT
  simp only at hT
  have HT := Lib.hid hT
  clear hT
  go_enter Tryz.func10, Tryz.ntmps10
  go_wp2_with fail
  rw [← hbb, ← hw1]
  clear hbb hw1
  refine HPUT.out.mono ?_
  rintro e w2 ⟨rfl, hb2⟩
  have hb12 := HB1.out.trans (hb2.mono HB1.out.size)
  have hB2 := HBB.out.below hb2 HBB.out.size
  have hS2 := HS.out.below hb2 HS.out.size
  have hend := shends_any base q m G _ w2 ((HK.out.new hb12).at (Nat.le_refl _))
  simp only at hend
  have HB2 := Lib.hid hb12
  have HBB2 := Lib.hid hB2
  have HS2 := Lib.hid hS2
  have HEND := Lib.hid hend
  clear hb2 hb12 hB2 hS2 hend HPUT HS HBB
  go_wp2_with fail
  refine HEND.out.mono ?_
  rintro e w3 ⟨rfl, hb3⟩
  have hb13 := HB2.out.trans (hb3.mono HB2.out.size)
  have hB3 := HBB2.out.below hb3 HBB2.out.size
  have hS3 := HS2.out.below hb3 HS2.out.size
  have hk3 := HK.out.new hb13
  have c0 := hB3.cell 0 _ rfl
  have c1 := hB3.cell 1 _ rfl
  have HB3 := Lib.hid hb13
  have HBB3 := Lib.hid hB3
  have HS3 := Lib.hid hS3
  have HK3 := Lib.hid hk3
  clear hb3 hb13 hB3 hS3 hk3 HEND HS2 HBB2 HB1 HB2
  by_cases h1 : v ≤ last
  · go_wp2_with fail
    go_ret
    have hT := HT.out
    rw [if_pos (by omega)] at hT
    subst hT
    exact ⟨rfl, G, HK3.out.at (by have := HM.out.1; omega), fun _ hi => .inl hi, Mv.of_new HB3.out G⟩
  have e1 : decide (v ≤ last) = false := decide_eq_false h1
  by_cases h2 : last < p
  · go_wp2_with fail
    go_ret
    have hT := HT.out
    rw [if_neg (by omega), if_pos (.inl h2)] at hT
    subst hT
    exact ⟨rfl, G, HK3.out.at (by have := HM.out.1; omega), fun _ hi => .inl hi, Mv.of_new HB3.out G⟩
  have e2 : decide (last < p) = false := decide_eq_false h2
  have h3 : ¬ v ≤ p := by omega
  have e3 : decide (v ≤ p) = false := decide_eq_false h3
  obtain ⟨wd, hwd⟩ : ∃ wd, wd = w3.drew := ⟨_, rfl⟩
  have hbd : Below w3.heap.size w3 wd := by rw [hwd]; exact (Below.refl _ w3).drew
  have hb1d := HB3.out.trans (hbd.mono HB3.out.size)
  have hSd := HS3.out.below hbd HS3.out.size
  have hBd := HBB3.out.below hbd HBB3.out.size
  have hCL : ∀ W, Below wd.heap.size wd W → W.cell? ⟨q, 0, none⟩ = some (.pointer (some ⟨qp, 0, none⟩)) ∧ W.cell? ⟨q, 1, none⟩ = some (.string s1) ∧ W.cell? ⟨q, 2, none⟩ = some (.string s2) ∧ W.cell? ⟨q, 3, none⟩ = some (.pointer (some ⟨qb, 0, none⟩)) ∧ W.cell? ⟨q, 4, none⟩ = some (.bool false) ∧ W.cell? ⟨bb, 0, none⟩ = some (.int .i64 p) ∧ W.cell? ⟨bb, 1, none⟩ = some (.int .i64 v) ∧ W.cell? ⟨bb, 2, none⟩ = some (.int .i64 0) ∧ W.cell? ⟨bb, 3, none⟩ = some (.slice A cs.length c) := fun W hW => by
    have g1 := hSd.below hW hSd.size
    have g2 := hBd.below hW hBd.size
    exact ⟨g1.cell 0 _ rfl, g1.cell 1 _ rfl, g1.cell 2 _ rfl, g1.cell 3 _ rfl, g1.cell 4 _ rfl, g2.cell 0 _ rfl, g2.cell 1 _ rfl, g2.cell 2 _ rfl, g2.cell 3 _ rfl⟩
  have HCL := Lib.hid hCL
  have HBd := Lib.hid hb1d
  have HSd := Lib.hid hSd
  have HBBd := Lib.hid hBd
  have HKd := Lib.hid (HK3.out.new hbd)
  have HE := Lib.hid (And.intro e1 (And.intro e2 e3))
  have HH := Lib.hid (And.intro h1 (And.intro h2 h3))
  have hcut := pcut_any (s1, s2) cs HALL.out.2.1 (.slice A cs.length c) wd (Rd.next HR.out.rd hb1d) (by have := HM.out.2.2; omega)
  unfold spv at hcut
  have HCUT := Lib.hid hcut
  clear hCL hcut hb1d hSd hBd hbd HB3 HS3 HBB3 HK3
  go_wp2_with fail
  refine wp_region_planB [(true, 0), (true, 1), (true, 2), (true, 3), (true, 4), (true, 5), (false, 6), (true, 7), (true, 8), (true, 9), (true, 10), (true, 11)] (by kernel_rfl) (by kernel_rfl) (fun _ _ d _ _ h => by cases d <;> exact h) ?_
  rw [← hwd]
  clear hwd c0 c1
  (refine PlanB.take (v := ?_) rfl rfl ?_ ?_; rotate_left; (focus (intro W hW; obtain ⟨k0, k1, k2, k3, k4, k5, k6, k7, k8⟩ := HCL.out W hW; go_simp; (try with_reducible rfl); done)); (try simp only [Act.put, List.setIfInBounds_toArray, List.set_cons_zero, List.set_cons_succ]))
  (refine PlanB.take (v := ?_) rfl rfl ?_ ?_; rotate_left; (focus (intro W hW; obtain ⟨k0, k1, k2, k3, k4, k5, k6, k7, k8⟩ := HCL.out W hW; go_simp; (try with_reducible rfl); done)); (try simp only [Act.put, List.setIfInBounds_toArray, List.set_cons_zero, List.set_cons_succ]))
  (refine PlanB.take (v := ?_) rfl rfl ?_ ?_; rotate_left; (focus (intro W hW; obtain ⟨k0, k1, k2, k3, k4, k5, k6, k7, k8⟩ := HCL.out W hW; go_simp; (try with_reducible rfl); done)); (try simp only [Act.put, List.setIfInBounds_toArray, List.set_cons_zero, List.set_cons_succ]))
  (refine PlanB.take (v := ?_) rfl rfl ?_ ?_; rotate_left; (focus (intro W hW; obtain ⟨k0, k1, k2, k3, k4, k5, k6, k7, k8⟩ := HCL.out W hW; go_simp; (try with_reducible rfl); done)); (try simp only [Act.put, List.setIfInBounds_toArray, List.set_cons_zero, List.set_cons_succ]))
  (refine PlanB.take (v := ?_) rfl rfl ?_ ?_; rotate_left; (focus (intro W hW; obtain ⟨k0, k1, k2, k3, k4, k5, k6, k7, k8⟩ := HCL.out W hW; go_simp; (try with_reducible rfl); done)); (try simp only [Act.put, List.setIfInBounds_toArray, List.set_cons_zero, List.set_cons_succ]))
  (refine PlanB.take (v := ?_) rfl rfl ?_ ?_; rotate_left; (focus (intro W hW; obtain ⟨k0, k1, k2, k3, k4, k5, k6, k7, k8⟩ := HCL.out W hW; go_simp; (try with_reducible rfl); done)); (try simp only [Act.put, List.setIfInBounds_toArray, List.set_cons_zero, List.set_cons_succ]))
  refine PlanB.step rfl rfl (fun Kk hK => ?_)
  go_simp
  go_at_call 24
  refine HCUT.out.mono ?_
  rintro o w4 ⟨v4, q4, rfl, hb4, hci⟩
  refine hK.out _ _ hb4 ?_
  have hcu : q4 = 0 ∧ OwnC w4 wd.heap.size v4 (cutP (s1, s2) cs) := by
    rcases hci with ⟨h, hq, _⟩ | ⟨_, hbig, _⟩ | ⟨_, _, hq, ho⟩
    · exact absurd (h.trans HALL.out.1) hq
    · have := HK.out.sp.2
      simp only at this hbig
      omega
    · exact ⟨hq, ho⟩
  obtain ⟨rfl, ho4⟩ := hcu
  have hb14 := HBd.out.trans (hb4.mono HBd.out.size)
  have HB4 := Lib.hid (And.intro hb4 hb14)
  have HO4 := Lib.hid ho4
  have HK4 := Lib.hid (HKd.out.new hb4)
  have HBB4 := Lib.hid (HBBd.out.below hb4 HBBd.out.size)
  have HS4 := Lib.hid (HSd.out.below hb4 HSd.out.size)
  clear hK Kk hb4 hb14 hci ho4 HCUT HCL
  (try simp only [Act.put, List.setIfInBounds_toArray, List.set_cons_zero, List.set_cons_succ])
  (refine PlanB.take (v := ?_) rfl rfl ?_ ?_; rotate_left; (focus (intro W hW; skip; go_simp; (try with_reducible rfl); done)); (try simp only [Act.put, List.setIfInBounds_toArray, List.set_cons_zero, List.set_cons_succ]))
  (refine PlanB.take (v := ?_) rfl rfl ?_ ?_; rotate_left; (focus (intro W hW; skip; go_simp; (try with_reducible rfl); done)); (try simp only [Act.put, List.setIfInBounds_toArray, List.set_cons_zero, List.set_cons_succ]))
  (refine PlanB.take (v := ?_) rfl rfl ?_ ?_; rotate_left; (focus (intro W hW; skip; go_simp; (try with_reducible rfl); done)); (try simp only [Act.put, List.setIfInBounds_toArray, List.set_cons_zero, List.set_cons_succ]))
  (refine PlanB.take (v := ?_) rfl rfl ?_ ?_; rotate_left; (focus (intro W hW; skip; go_simp; (try with_reducible rfl); done)); (try simp only [Act.put, List.setIfInBounds_toArray, List.set_cons_zero, List.set_cons_succ]))
  (refine PlanB.take (v := ?_) rfl rfl ?_ ?_; rotate_left; (focus (intro W hW; skip; go_simp; (try with_reducible rfl); done)); (try simp only [Act.put, List.setIfInBounds_toArray, List.set_cons_zero, List.set_cons_succ]))
  simp only [PlanB]
  obtain ⟨wd2, hwd2⟩ : ∃ wd, wd = w4.drew := ⟨_, rfl⟩
  have hbd : Below w4.heap.size w4 wd2 := by rw [hwd2]; exact (Below.refl _ w4).drew
  have hb1d := HB4.out.2.trans (hbd.mono HB4.out.2.size)
  have hSd := HS4.out.below hbd HS4.out.size
  have hBd := HBB4.out.below hbd HBB4.out.size
  have hkd := HK4.out.new hbd
  have hod : OwnC wd2 wd.heap.size v4 (cutP (s1, s2) cs) := HO4.out.below hbd (Nat.le_refl _)
  have hgw : ∀ i, Gp i → i < wd.heap.size := fun i hi => (HKd.out.low.2 i (HKd.out.sub.2.2 i hi)).2
  have hrd : RdG encC 3 wd2 wd2.heap.size Gp v4 (cutP (s1, s2) cs) := RdG.own encC_len hod (fun b hb _ _ hg => by have := hgw b hg; omega)
  have hsmc : ∀ x ∈ cutP (s1, s2) cs, smallC x := fun x hx => (small_ok (allAns_all (cut_check (s1, s2) HK.out.sp.2 HALL.out.1) x hx)).1
  have hcl := cutP_len (s1, s2) cs
  have hadd := padd_any base qp m Gp pa v (cutP (s1, s2) cs) v4 wd2 hkd.pa HI.out hrd hsmc (by have := HM.out; unfold many; omega)
  obtain ⟨ha1, ha2⟩ := at_add pa (v := v) (cs := cutP (s1, s2) cs) (by rw [HV.out.2.1]; have := HH.out.1; omega) (cut_check (s1, s2) HK.out.sp.2 HALL.out.1)
  rw [ha1] at hadd
  simp only at hadd
  have HADD := Lib.hid hadd
  have HA2 := Lib.hid ha2
  have HBd2 := Lib.hid hb1d
  have HSd2 := Lib.hid hSd
  have HBBd2 := Lib.hid hBd
  have HKd2 := Lib.hid hkd
  have HCN := Lib.hid hcl
  clear hbd hb1d hSd hBd hkd hod hgw hrd hsmc hcl hadd ha1 ha2 HB4 HO4 HK4 HBB4 HS4
  go_wp2_with fail
  refine wp_region_plan (S := fun W => W.cell? ⟨q, 0, none⟩ = some (.pointer (some ⟨qp, 0, none⟩)) ∧ W.cell? ⟨bb, 1, none⟩ = some (.int .i64 v)) [(true, 0), (true, 1), (true, 2), (true, 3), (true, 4), (true, 5), (true, 6), (false, 7), (true, 8)] (by kernel_rfl) (by kernel_rfl) (fun _ _ d _ _ h => by cases d <;> exact h) ⟨by rw [← hwd2]; exact HSd2.out.cell 0 _ rfl, by rw [← hwd2]; exact HBBd2.out.cell 1 _ rfl⟩ ?_
  rw [← hwd2]
  clear hwd2
  (refine Plan.take (v := ?_) rfl rfl ?_ ?_; rotate_left; (focus (intro W hW; obtain ⟨k0, k1⟩ := hW; go_simp; (try with_reducible rfl); done)); (try simp only [Act.put, List.setIfInBounds_toArray, List.set_cons_zero, List.set_cons_succ]))
  (refine Plan.take (v := ?_) rfl rfl ?_ ?_; rotate_left; (focus (intro W hW; obtain ⟨k0, k1⟩ := hW; go_simp; (try with_reducible rfl); done)); (try simp only [Act.put, List.setIfInBounds_toArray, List.set_cons_zero, List.set_cons_succ]))
  (refine Plan.take (v := ?_) rfl rfl ?_ ?_; rotate_left; (focus (intro W hW; obtain ⟨k0, k1⟩ := hW; go_simp; (try with_reducible rfl); done)); (try simp only [Act.put, List.setIfInBounds_toArray, List.set_cons_zero, List.set_cons_succ]))
  (refine Plan.take (v := ?_) rfl rfl ?_ ?_; rotate_left; (focus (intro W hW; obtain ⟨k0, k1⟩ := hW; go_simp; (try with_reducible rfl); done)); (try simp only [Act.put, List.setIfInBounds_toArray, List.set_cons_zero, List.set_cons_succ]))
  (refine Plan.take (v := ?_) rfl rfl ?_ ?_; rotate_left; (focus (intro W hW; obtain ⟨k0, k1⟩ := hW; go_simp; (try with_reducible rfl); done)); (try simp only [Act.put, List.setIfInBounds_toArray, List.set_cons_zero, List.set_cons_succ]))
  (refine Plan.take (v := ?_) rfl rfl ?_ ?_; rotate_left; (focus (intro W hW; obtain ⟨k0, k1⟩ := hW; go_simp; (try with_reducible rfl); done)); (try simp only [Act.put, List.setIfInBounds_toArray, List.set_cons_zero, List.set_cons_succ]))
  (refine Plan.take (v := ?_) rfl rfl ?_ ?_; rotate_left; (focus (intro W hW; obtain ⟨k0, k1⟩ := hW; go_simp; (try with_reducible rfl); done)); (try simp only [Act.put, List.setIfInBounds_toArray, List.set_cons_zero, List.set_cons_succ]))
  refine Plan.step rfl rfl (fun Kk hK => ?_)
  go_simp
  go_at_call 25
  refine HADD.out.mono ?_
  rintro o w5 ⟨rfl, Gp', hp5, hg5, hm5⟩
  have hq5 := hm5.whole HSd2.out HK.out.off.2.1
  have hb5 := hm5.whole HBBd2.out (fun h => HBG.out bb (HK.out.sub.2.2 bb h) rfl)
  refine hK.out _ _ ⟨hq5.cell 0 _ rfl, hb5.cell 1 _ rfl⟩ ?_
  (try simp only [Act.put, List.setIfInBounds_toArray, List.set_cons_zero, List.set_cons_succ])
  (refine Plan.take (v := ?_) rfl rfl ?_ ?_; rotate_left; (focus (intro W hW; obtain ⟨k0, k1⟩ := hW; go_simp; (try with_reducible rfl); done)); (try simp only [Act.put, List.setIfInBounds_toArray, List.set_cons_zero, List.set_cons_succ]))
  simp only [Plan]
  have hk5 := HKd2.out.past (s' := ⟨(s1, s2), v, applyP at_ (cutP (s1, s2) cs)⟩) hp5 hg5 hm5 ⟨HV.out.1, rfl, by rw [← HV.out.2.2]; exact HA2.out⟩ HIN.out rfl
  have hw5 : Mv G w w5 := (Mv.of_new HBd2.out G).trans hm5 (fun i _ hi => HK.out.sub.2.2 i hi)
  have hgn : ∀ i, (G i ∨ Gp' i) → G i ∨ w.heap.size ≤ i := by
    rintro i (hi | hi)
    · exact .inl hi
    · rcases hg5 i hi with h | h
      · exact .inl (HK.out.sub.2.2 i h)
      · exact .inr (Nat.le_trans HBd2.out.size h)
  have hle : m + (cutP (s1, s2) cs).length ≤ n + 1000 := by have := HM.out; have := HCN.out; omega
  go_wp2_with fail
  go_ret
  have hT := HT.out
  obtain ⟨h1, h2, h3⟩ := HH.out
  rw [if_neg (by omega), if_neg (by omega)] at hT
  subst hT
  exact ⟨rfl, _, hk5.at hle, hgn, hw5⟩
end Go.Proofs.YtbifnogocmgddaaGreat
namespace Go.Proofs.YtbifnogocmgddaaGreat
open Go.RowKit

set_option maxRecDepth 100000 in
theorem convH_any (w : World) (t : List UInt8) : ∃ c w', (convert 9 51 (.string (strB t))).run Tryz.prog w = .ok (.slice (some ⟨w.heap.size, 0, none⟩) t.length c) w' ∧ RdB w' w'.heap.size (.slice (some ⟨w.heap.size, 0, none⟩) t.length c) t ∧ Below w.heap.size w w' ∧ w.heap.size < w'.heap.size := by
  have h := Lib.run_convert_string_bytes (P := Tryz.prog) w 9 51 5 (strB t) Tryz.underlying9 Tryz.underlying51 Tryz.underlying5
  have hsz : (strB t).size = t.length := by simp [strB, ByteArray.size]
  rw [hsz] at h
  have h2 := Lib.bytesWorld_size w 5 (strB t)
  refine ⟨_, _, h, ⟨_, _, rfl, grownCap_ge _ _ _ _, fun i hi => ⟨w.heap.size, 0, rfl, by omega, fun j u hu => ?_⟩⟩, ⟨rfl, ?_, rfl, by omega, fun j hj => Lib.bytesWorld_at_old w _ _ j hj⟩, by omega⟩
  · match j, hu with
    | 0, hu =>
      simp only [byteEnc, List.getElem?_cons_zero, Option.some.injEq] at hu
      subst hu
      have := Lib.bytesWorld_cell w 5 (strB t) i (by rw [hsz]; exact hi)
      rw [Nat.zero_add, Nat.mul_one, Nat.add_zero, this]
      simp [strB, List.getD, hi]
    | j + 1, hu => simp [byteEnc] at hu
  · rfl

set_option maxHeartbeats 1000000 in
set_option maxRecDepth 100000 in
theorem open_hold (l : List UInt8) (v : Value) (w : World) (hv : RdB w w.heap.size v l) (hl : l.length ≤ 140737488355328) : Calls Tryz.prog 65 #[v] w fun e w' => ∃ v', e = .returned (.tuple #[v', .int .i64 (openAns l).2]) ∧ HoldB w' w.heap.size v' (openAns l).1 ∧ Below w.heap.size w w' := by
  by_cases h4 : l.length < 4
  · obtain ⟨A, c, rfl, hc, _⟩ := hv.at
    rw [show openAns l = ([], 3) by rw [openAns, if_pos h4]]
    clear hv
    go_enter Tryz.func65, Tryz.ntmps65
    go_wp2_with fail
    go_ret2
    exact ⟨_, rfl, HoldB.nil _ _, Below.refl _ _⟩
  · obtain ⟨p, r, rfl, hp⟩ : ∃ p r, l = p ++ r ∧ p.length = 4 := ⟨l.take 4, l.drop 4, by simp, by simp; omega⟩
    have hah := ahead_any (p ++ r) (by omega) v w _ hv
    obtain ⟨A, c, rfl, hc, hi⟩ := hv.at
    obtain ⟨b, o, rfl, hbB, _⟩ := hi 0 (by simp [hp]; omega)
    clear hi
    obtain ⟨c', rfl⟩ : ∃ c', c = c' + 4 := ⟨c - 4, by simp [hp] at hc; omega⟩
    have hlen : (p ++ r).length = r.length + 4 := by simp [hp]; omega
    have htl := hv.tail hp c' (by simp [hp] at hc; omega)
    rw [show (p ++ r).take 4 = p by rw [← hp]; simp] at hah
    have hans : openAns (p ++ r) = if val p = sum r then (r, 0) else ([], 2) := by
      rw [openAns, if_neg h4, show (p ++ r).take 4 = p by rw [← hp]; simp, show (p ++ r).drop 4 = r by rw [← hp]; simp]
    rw [hans]
    rw [hlen] at hah hv hc hl ⊢
    clear hans hlen h4
    obtain ⟨x, hx⟩ : ∃ x, x = val p := ⟨_, rfl⟩
    rw [← hx] at hah ⊢
    clear hx
    have hcr : r.length ≤ c' := by omega
    have HA := Lib.hid hah; clear hah
    have HT := Lib.hid htl
    have HV := Lib.hid hv; clear hv
    obtain ⟨tp, htp⟩ : ∃ tp, tp = Value.slice (if c' = 0 then some ⟨b, o, none⟩ else some ⟨b, o + 4, none⟩) r.length c' := ⟨_, rfl⟩
    have hrt : RdB w w.heap.size tp r := by
      subst htp
      split
      · have : r = [] := List.eq_nil_of_length_eq_zero (by omega)
        subst this
        exact Rd.none_ _ _ _ _
      · exact HT.out
    have hsm := sum_any r tp w _ hrt (by omega)
    have HRT := Lib.hid hrt; clear hrt
    have HS := Lib.hid hsm; clear hsm
    have HX := Lib.hid htp
    clear htp HT
    by_cases hxs : x = sum r
    · rw [if_pos hxs]
      rw [← hxs] at HS
      clear hxs
      by_cases hc0 : c' = 0
      · have hr0 : r = [] := List.eq_nil_of_length_eq_zero (by omega)
        subst hc0 hr0
        have htp := HX.out
        simp only [if_true] at htp
        subst htp
        go_enter Tryz.func65, Tryz.ntmps65
        go_wp2_with fail
        refine HA.out.mono ?_
        rintro e w1 ⟨rfl, rfl⟩
        go_wp2_with fail
        refine HS.out.mono ?_
        rintro e w2 ⟨rfl, rfl⟩
        go_wp2_with (refine wpList_makeB rfl _ _ rfl 0 ?pa ?pb (by omega) ?pc)
        case pa => rfl
        case pb => rfl
        intro w3 hr3 hb3
        have hrt3 : RdB w3 w2.heap.size (.slice (some ⟨b, o, none⟩) 0 0) ([] : List UInt8) := HRT.out.below hb3 (Nat.le_refl _)
        have HR3 := Lib.hid hr3; clear hr3
        have HRT3 := Lib.hid hrt3; clear hrt3
        have HB3 := Lib.hid hb3; clear hb3
        go_wp2_with (with_reducible show wpList _ _ _ (⟨some 21, _, _, _, _, _⟩ :: _) _ _; go_must (refine wpList_copyB rfl (.tmp 19) (.tmp 20) rfl w2.heap.size 0 (some ⟨w2.heap.size, 0, none⟩) _ ([] : List UInt8) ([] : List UInt8) (.slice (some ⟨b, o, none⟩) 0 0) w2.heap.size rfl (fun _ => rfl) rfl HRT3.out HR3.out (by simp) w2.heap.size w2 HB3.out (Nat.le_refl _) ?pd))
        intro w4 hr4 hb4
        go_wp2_with fail
        go_ret2
        have hr5 : RowB w4 w2.heap.size ([] : List UInt8) := by simpa using hr4.out
        exact ⟨_, rfl, HoldB.ofOwn (hr5.own (Nat.le_refl _) (by simp [maxLen])), hb4⟩
      · have htp := HX.out
        rw [if_neg hc0] at htp
        subst htp
        go_enter Tryz.func65, Tryz.ntmps65
        go_wp2_with fail
        refine HA.out.mono ?_
        rintro e w1 ⟨rfl, rfl⟩
        go_wp2_with fail
        refine HS.out.mono ?_
        rintro e w2 ⟨rfl, rfl⟩
        go_wp2_with (refine wpList_makeB rfl _ _ rfl r.length ?qa ?qb (by omega) ?qc)
        case qa => rfl
        case qb => rfl
        intro w3 hr3 hb3
        have hrt3 : RdB w3 w2.heap.size (.slice (some ⟨b, o + 4, none⟩) r.length c') r := HRT.out.below hb3 (Nat.le_refl _)
        have HR3 := Lib.hid hr3; clear hr3
        have HRT3 := Lib.hid hrt3; clear hrt3
        have HB3 := Lib.hid hb3; clear hb3
        go_wp2_with (with_reducible show wpList _ _ _ (⟨some 21, _, _, _, _, _⟩ :: _) _ _; go_must (refine wpList_copyB rfl (.tmp 19) (.tmp 20) rfl w2.heap.size 0 (some ⟨w2.heap.size, 0, none⟩) _ (List.replicate r.length 0 : List UInt8) r (.slice (some ⟨b, o + 4, none⟩) r.length c') w2.heap.size rfl (fun _ => rfl) rfl HRT3.out HR3.out (by simp) w2.heap.size w2 HB3.out (Nat.le_refl _) ?qd))
        intro w4 hr4 hb4
        go_wp2_with fail
        go_ret2
        have hr5 : RowB w4 w2.heap.size r := by simpa using hr4.out
        exact ⟨_, rfl, HoldB.ofOwn (hr5.own (Nat.le_refl _) (by unfold maxLen; omega)), hb4⟩
    · rw [if_neg hxs]
      obtain ⟨y, hy⟩ : ∃ y, y = sum r := ⟨_, rfl⟩
      rw [← hy] at HS hxs
      clear hy
      by_cases hc0 : c' = 0
      · have hr0 : r = [] := List.eq_nil_of_length_eq_zero (by omega)
        subst hc0 hr0
        have htp := HX.out
        simp only [if_true] at htp
        subst htp
        go_enter Tryz.func65, Tryz.ntmps65
        go_wp2_with fail
        refine HA.out.mono ?_
        rintro e w1 ⟨rfl, rfl⟩
        go_wp2_with fail
        refine HS.out.mono ?_
        rintro e w2 ⟨rfl, rfl⟩
        go_wp2_with fail
        go_ret2
        exact ⟨_, rfl, HoldB.nil _ _, Below.refl _ _⟩
      · have htp := HX.out
        rw [if_neg hc0] at htp
        subst htp
        go_enter Tryz.func65, Tryz.ntmps65
        go_wp2_with fail
        refine HA.out.mono ?_
        rintro e w1 ⟨rfl, rfl⟩
        go_wp2_with fail
        refine HS.out.mono ?_
        rintro e w2 ⟨rfl, rfl⟩
        go_wp2_with fail
        go_ret2
        exact ⟨_, rfl, HoldB.nil _ _, Below.refl _ _⟩
end Go.Proofs.YtbifnogocmgddaaGreat
namespace Go.Proofs.YtbifnogocmgddaaGreat
open Go.RowKit

theorem readGo_none {f : Nat} {b : List UInt8} (h : oneAns b = none) : readGo f b = ([], 0) := by
  cases f with
  | zero => rfl
  | succ f => rw [readGo, h]
/-- how far the reading of l has come: the records, the bytes used -/
def ReadInv (l : List UInt8) (rs : List (List UInt8)) (u : Nat) : Prop :=
  ∃ f, f + rs.length = l.length ∧ rs.length ≤ u ∧ u ≤ l.length ∧ readAns l = (rs ++ (readGo f (l.drop u)).1, u + (readGo f (l.drop u)).2)
theorem ReadInv.start (l : List UInt8) : ReadInv l [] 0 := ⟨l.length, by simp, by simp, by simp, by simp [readAns]⟩
theorem ReadInv.stop {l : List UInt8} {rs : List (List UInt8)} {u : Nat} (h : ReadInv l rs u) (ho : oneAns (l.drop u) = none) : readAns l = (rs, u) := by
  obtain ⟨f, _, _, _, h⟩ := h
  rw [h, readGo_none ho]
  simp
theorem ReadInv.next {l : List UInt8} {rs : List (List UInt8)} {u : Nat} (h : ReadInv l rs u) {r : List UInt8} {n : Nat} (ho : oneAns (l.drop u) = some (r, n)) : ReadInv l (rs ++ [r]) (u + n) ∧ 0 < n ∧ r.length ≤ 65532 := by
  obtain ⟨f, h1, h2, h3, h4⟩ := h
  obtain ⟨hf, hn, s, hs⟩ := one_take ho
  have h5 := recB_ge r
  have hlen : n + s.length = l.length - u := by
    have := congrArg List.length hs
    rw [List.length_drop, List.length_append] at this
    omega
  match f, h1, h4 with
  | 0, h1, h4 => omega
  | f + 1, h1, h4 =>
    refine ⟨⟨f, by simp; omega, by simp; omega, by omega, ?_⟩, by omega, hf⟩
    rw [h4, readGo, ho]
    simp only [List.drop_drop, Prod.mk.injEq]
    exact ⟨by simp, by omega⟩
theorem ReadInv.len {l : List UInt8} {rs : List (List UInt8)} {u : Nat} (h : ReadInv l rs u) : rs.length ≤ l.length ∧ u ≤ l.length := by
  obtain ⟨f, h1, h2, h3, h4⟩ := h
  omega

set_option maxHeartbeats 8000000 in
set_option maxRecDepth 100000 in
theorem pread_any (l : List UInt8) (A : Option Addr) (c : Nat) (w : World) (hv : RdB w w.heap.size (.slice A l.length c) l) (hl : l.length ≤ 2000000) :
    Calls Tryz.prog 36 #[.slice A l.length c] w fun e w' => ∃ A' c' n, e = .returned (.tuple #[.slice A' n c', .int .i64 ((readAns l).2 : Int)]) ∧ ∃ rows, n = rows.length ∧ OwnR w' w.heap.size (.slice A' n c') rows ∧ HoldRs w' w.heap.size rows ∧ texts rows = (readAns l).1 ∧ Below w.heap.size w w' := by
  have hcl : l.length ≤ c := by obtain ⟨A0, c0, e, h, _⟩ := hv; injection e with _ _ e; rw [e]; exact h
  have HV := Lib.hid hv; clear hv
  obtain ⟨R, hR⟩ : ∃ R, R = readAns l := ⟨_, rfl⟩
  rw [← hR]
  have HR := Lib.hid hR; clear hR
  go_enter Tryz.func36, Tryz.ntmps36
  go_wp2_with fail
  go_loopw [2, 3] (fun ov uv wr => ∃ (u : Nat) (A' : Option Addr) (c' n : Nat) (rows : List Row), u ≤ l.length ∧ uv = .int .i64 (u : Int) ∧ ov = .slice A' n c' ∧ n = rows.length ∧ OwnR wr w.heap.size (.slice A' n c') rows ∧ HoldRs wr w.heap.size rows ∧ ReadInv l (texts rows) u ∧ Below w.heap.size w wr) (fun _ uv _ => l.length - (intOf uv).toNat)
  case atStart => exact ⟨0, _, _, 0, [], Nat.zero_le _, rfl, rfl, rfl, Own.nil _ _, HoldRs.nil _ _, ReadInv.start l, Below.refl _ _⟩
  case round =>
    obtain ⟨u, A', c', n, rows, hu, rfl, rfl, hn, ho, hh, hi, hb⟩ := hrel
    have hbs := hb.size
    have HO := Lib.hid ho
    have HH := Lib.hid hh
    have HI := Lib.hid hi
    have HB := Lib.hid hb
    have HN := Lib.hid hn
    clear ho hh hi hb hn
    by_cases hend : l.length = u
    · have hone : oneAns (l.drop u) = none := by rw [List.drop_eq_nil_of_le (by omega)]; exact one_nil
      have HK := Lib.hid (HR.out.trans (HI.out.stop hone))
      clear hone
      subst hend
      have HTX := Lib.hid (fun (A2 : Option Addr) (c2 : Nat) => text_any [] (.slice A2 0 c2) wr (Rd.none_ _ _ _ _) (by simp))
      by_cases hcu : c = l.length
      · subst hcu
        go_wp2_with fail
        refine (HTX.out _ _).mono ?_
        rintro e w1 ⟨rfl, hb1⟩
        have ht : textVal (textAns []) = .tuple #[.string (strB []), .int .i64 0, .int .i64 3] := rfl
        rw [ht]
        have HO1 := Lib.hid (HO.out.below hb1 (Nat.le_refl _))
        have HH1 := Lib.hid (HH.out.below hb1 (Nat.le_refl _))
        have HB1 := Lib.hid (HB.out.trans (hb1.mono hbs))
        clear hb1 ht
        go_wp2_with fail
        go_ret2
        exact ⟨A', c', n, by rw [HK.out]; rfl, rows, HN.out, HO1.out, HH1.out, by rw [HK.out], HB1.out⟩
      · go_wp2_with fail
        refine (HTX.out _ _).mono ?_
        rintro e w1 ⟨rfl, hb1⟩
        have ht : textVal (textAns []) = .tuple #[.string (strB []), .int .i64 0, .int .i64 3] := rfl
        rw [ht]
        have HO1 := Lib.hid (HO.out.below hb1 (Nat.le_refl _))
        have HH1 := Lib.hid (HH.out.below hb1 (Nat.le_refl _))
        have HB1 := Lib.hid (HB.out.trans (hb1.mono hbs))
        clear hb1 ht
        go_wp2_with fail
        go_ret2
        exact ⟨A', c', n, by rw [HK.out]; rfl, rows, HN.out, HO1.out, HH1.out, by rw [HK.out], HB1.out⟩
    · have hul : u < l.length := by omega
      have hcu : ¬ c = u := by omega
      have hcu2 : u ≤ c := by omega
      obtain ⟨b, o, hA⟩ : ∃ b o, A = some ⟨b, o, none⟩ := by
        obtain ⟨A0, c0, e, _, hi⟩ := HV.out.at
        injection e with e _ _
        subst e
        obtain ⟨b, o, h, _⟩ := hi 0 (by omega)
        exact ⟨b, o, h⟩
      subst hA
      have hrd : RdB wr wr.heap.size (.slice (some ⟨b, o + u, none⟩) (l.length - u) (c - u)) (l.drop u) :=
        (Rd.drop (k := 1) (HV.out.below HB.out (Nat.le_refl _)) u (c - u) hu (by omega) (some ⟨b, o + u, none⟩) (fun _ => by simp [Addr.add])).mono hbs
      have htx := text_any (l.drop u) _ wr hrd (by simp; omega)
      obtain ⟨T, hT⟩ : ∃ T, T = textAns (l.drop u) := ⟨_, rfl⟩
      rw [← hT] at htx
      have HTX := Lib.hid htx
      have HT := Lib.hid hT
      clear hrd htx hT
      obtain ⟨s, m, e⟩ := T
      simp only [textVal] at HTX
      go_wp2_with fail
      refine HTX.out.mono ?_
      rintro e' w1 ⟨rfl, hb1⟩
      have HO1 := Lib.hid (HO.out.below hb1 (Nat.le_refl _))
      have HH1 := Lib.hid (HH.out.below hb1 (Nat.le_refl _))
      have HB1 := Lib.hid (HB.out.trans (hb1.mono hbs))
      have hbs1 := HB1.out.size
      clear hb1 HTX
      by_cases he : e = 0
      · subst he
        have hm : m ≤ l.length := by
          have h := HT.out
          unfold textAns at h
          rcases hx : numAns (l.drop u) with ⟨x1, x2, x3⟩
          rw [hx] at h
          simp only at h
          split at h
          · simp only [Prod.mk.injEq] at h; omega
          · split at h
            · simp only [Prod.mk.injEq] at h; omega
            · split at h
              · simp only [Prod.mk.injEq] at h; omega
              · rename_i h5 h6 h7
                simp only [Prod.mk.injEq] at h
                obtain ⟨h8, _, _, sx, h9⟩ := numAns_once (show numAns (l.drop u) = (x1, x2, 0) by rw [hx]; simp; omega)
                have h10 : (l.drop u).length = l.length - u := by simp
                have h11 := congrArg List.length h9
                rw [List.length_append, ← h8] at h11
                omega
        have hsl : s.length ≤ 140737488355328 := by
          have h := HT.out
          unfold textAns at h
          split at h
          · simp only [Prod.mk.injEq] at h; rw [h.1]; simp
          · split at h
            · simp only [Prod.mk.injEq] at h; rw [h.1]; simp
            · split at h
              · simp only [Prod.mk.injEq] at h; rw [h.1]; simp
              · simp only [Prod.mk.injEq] at h; rw [h.1]; simp; omega
        obtain ⟨c2, w2, hkc, hr2, hb2, hlt2⟩ := convH_any w1 s
        have HO2 := Lib.hid (HO1.out.below hb2 (Nat.le_refl _))
        have HH2 := Lib.hid (HH1.out.below hb2 (Nat.le_refl _))
        have HB2 := Lib.hid (HB1.out.trans (hb2.mono hbs1))
        have hbs2 := HB2.out.size
        have HOP := Lib.hid (open_hold s _ w2 hr2 hsl)
        have hov := HOP
        clear hr2 hb2 hsl hov
        go_wp2_with fail
        refine HOP.out.mono ?_
        rintro e' w3 ⟨v3, rfl, hho, hb3⟩
        have HO3 := Lib.hid (HO2.out.below hb3 (Nat.le_refl _))
        have HH3 := Lib.hid (HH2.out.below hb3 (Nat.le_refl _))
        have HB3 := Lib.hid (HB2.out.trans (hb3.mono hbs2))
        have hho3 := hho.lower hbs2
        have hbs3 := HB3.out.size
        have hone : oneAns (l.drop u) = if (openAns s).2 = 0 then some ((openAns s).1, m) else none := by
          unfold oneAns
          rw [← HT.out]
          simp
        have HONE := Lib.hid hone
        clear hb3 hho hone hkc HOP
        obtain ⟨X, hX⟩ : ∃ X, X = openAns s := ⟨_, rfl⟩
        rw [← hX] at hho3 HONE ⊢
        clear hX
        obtain ⟨x, y⟩ := X
        simp only at hho3 HONE ⊢
        have HHO3 := Lib.hid hho3; clear hho3
        by_cases hy : y = 0
        · subst hy
          rw [if_pos rfl] at HONE
          obtain ⟨hnx, hm0, hx6⟩ := HI.out.next HONE.out
          have hle := hnx.len
          have hnl : rows.length + 1 ≤ 9000000000000 := by have := HI.out.len.1; simp [texts] at this; omega
          have HNX := Lib.hid hnx
          clear hnx
          obtain ⟨A1, c1, hv3⟩ : ∃ A1 c1, v3 = .slice A1 x.length c1 := by
            rcases HHO3.out.form with ⟨h1, h2⟩ | ⟨g, cap, h1, _⟩
            · exact ⟨none, 0, by rw [h1, h2]; rfl⟩
            · exact ⟨_, _, h1⟩
          subst hv3
          obtain ⟨w4, hw4⟩ : ∃ w4, w4 = w3.alloc (.cells #[.slice A1 x.length c1] 51) := ⟨_, rfl⟩
          have hone : Rd encR 1 w4 (w3.heap.size + 1) (.slice (some ⟨w3.heap.size, 0, none⟩) 1 1) [⟨A1, c1, x⟩] := by rw [hw4]; exact RdR.one w3 ⟨A1, c1, x⟩
          have hB4 : Below w3.heap.size w3 w4 := by rw [hw4]; exact (Below.refl _ w3).alloc (Nat.le_refl _) _
          have HO4 := Lib.hid (HO3.out.below hB4 (Nat.le_refl _))
          have HH4 := Lib.hid (HH3.out.below hB4 (Nat.le_refl _))
          have HHO4 := Lib.hid (HHO3.out.below hB4 (Nat.le_refl _))
          have HB4 := Lib.hid (HB3.out.trans (hB4.mono hbs3))
          have HON := Lib.hid hone
          have HW4 := Lib.hid hw4
          clear hone hB4 hw4
          go_wp2_with (at_builtin; go_must (refine wpList_addR rfl _ _ rfl w.heap.size (.slice A' n c') rows rfl ?x1 (w3.heap.size + 1) _ [⟨A1, c1, x⟩] rfl ?x2 (by show _ + 1 ≤ _; exact hnl) ?x3 ?_))
          case x1 => rw [← HW4.out]; exact HO4.out
          case x2 => rw [← HW4.out]; exact HON.out
          case x3 => have := HB4.out.size; rw [HW4.out] at this; exact this
          rw [← HW4.out]
          intro A5 c5 w5 ho5 hg5
          have HO5 := Lib.hid ho5.out
          have HH5 := Lib.hid ((HH4.out.append (show HoldRs w4 w.heap.size [⟨A1, c1, x⟩] from fun r hr => by rw [List.mem_singleton.1 hr]; exact HHO4.out)).grown HO4.out hg5.out)
          have HB5 := Lib.hid (HO4.out.grown HB4.out hg5.out (Nat.le_refl _) HB4.out.size)
          have ht5 : texts (rows ++ [⟨A1, c1, x⟩]) = texts rows ++ [x] := texts_append _ _
          have HT5 := Lib.hid ht5
          clear ho5 hg5 ht5
          obtain ⟨n5, hn5⟩ : ∃ n5, n5 = rows.length + 1 := ⟨_, rfl⟩
          rw [← hn5] at HO5 ⊢
          have HN5 := Lib.hid (show n5 = (rows ++ [(⟨A1, c1, x⟩ : Row)]).length by rw [hn5]; simp); clear hn5
          have hw5 : IntKind.i64.wrap ((u : Int) + (m : Int)) = (u : Int) + (m : Int) := by rw [IntKind.wrap_i64]; omega
          go_wp2_with fail
          go_roundw
          case rel => exact ⟨u + m, A5, c5, n5, _, hle.2, by go_num, rfl, HN5.out, HO5.out, HH5.out, by rw [HT5.out]; exact HNX.out, HB5.out⟩
          case measure => simp [intOf]; omega
        · rw [if_neg hy] at HONE
          have HK := Lib.hid (HR.out.trans (HI.out.stop HONE.out))
          go_wp2_with fail
          go_ret2
          exact ⟨A', c', n, by rw [HK.out]; rfl, rows, HN.out, HO3.out, HH3.out, by rw [HK.out], HB3.out⟩
      · have hone : oneAns (l.drop u) = none := one_err (by rw [← HT.out]; exact he)
        have HK := Lib.hid (HR.out.trans (HI.out.stop hone))
        clear hone
        have he2 : ¬ (e : Int) = 0 := by omega
        go_wp2_with fail
        go_ret2
        exact ⟨A', c', n, by rw [HK.out]; rfl, rows, HN.out, HO1.out, HH1.out, by rw [HK.out], HB1.out⟩
end Go.Proofs.YtbifnogocmgddaaGreat
namespace Go.Proofs.YtbifnogocmgddaaGreat
open Go.RowKit

set_option maxRecDepth 100000 in
/-- a new book over a tape, its records in blocks of its own -/
theorem BkAt.made {w w3 : World} {base p n c m : Nat} {ov ov3 : Option Nat} {t0 t : Tp} {A : Option Addr} {rows : List Row} (h0 : TapeAt w base p ov t0) (hs : w.heap.size ≤ w3.heap.size) (ht : TapeAt w3 base p ov3 t) (hn : n = rows.length)
    (ho : OwnR w3 w.heap.size (.slice A n c) rows) (hh : HoldRs w3 w.heap.size rows) (hf : ∀ r ∈ rows, r.l.length ≤ 140737488351232) (hd : ∀ r ∈ rows, ∀ g, r.v.ownBlock = some g → ov3 ≠ some g) (hov : ∀ g, ov3 = some g → ov = some g ∨ w.heap.size ≤ g) (hm : m = w3.heap.size) :
    ∃ G, BkAt (w3.alloc (.cells #[.pointer (some ⟨p, 0, none⟩), .slice A n c, .bool false] 84)) base m p G ⟨texts rows, false, t⟩ ∧ (∀ i, G i → TapeD p ov i ∨ w.heap.size ≤ i) := by
  subst hm
  have hb := h0.low
  refine ⟨fun i => TapeD p ov i ∨ (w.heap.size ≤ i ∧ i < w3.heap.size + 1), ⟨ov3, A, c, n, rows, Whole.fresh w3 84 [_, _, _], hn, ?_, ?_, rfl, hf, ?_, hd, .inr ⟨hs, Nat.lt_succ_self _⟩, .inl (.inl rfl), ?_, ?_, ?_, ?_, ?_⟩, ?_⟩
  · exact (ho.alloc _).lower hb.2.2
  · exact (hh.mv ((Mv.refl (fun _ => False) w3).alloc _) (fun _ _ _ _ h => h)).lower hb.2.2
  · exact ht.mv ((Mv.refl (fun _ => False) w3).alloc _) (fun h => h) (fun _ _ h => h)
  · intro g hg
    rcases hov g hg with h | h
    · exact .inl (.inr h.symm)
    · exact .inr ⟨h, Nat.lt_succ_of_lt (ht.row hg).2⟩
  · intro g hg
    exact .inr ⟨(ho.low hg).1, Nat.lt_succ_of_lt (ho.low hg).2⟩
  · intro r hr g hg
    exact .inr ⟨((hh r hr).low hg).1, Nat.lt_succ_of_lt ((hh r hr).low hg).2⟩
  · simp; omega
  · rintro i ((rfl | h) | h)
    · exact ⟨hb.1, by simp; omega⟩
    · have := h0.row h.symm
      exact ⟨this.1, by simp; omega⟩
    · exact ⟨by omega, by simpa using h.2⟩
  · rintro i (h | h)
    · exact .inl h
    · exact .inr h.1

set_option maxHeartbeats 8000000 in
set_option maxRecDepth 100000 in
theorem bopen_any (base p : Nat) (ov : Option Nat) (t : Tp) (w : World) (h : TapeAt w base p ov t) (h0 : (Bks.opens t).1 = 0) :
    Calls Tryz.prog 18 #[.pointer (some ⟨p, 0, none⟩)] w fun e w' => ∃ q G, e = .returned (.tuple #[.pointer (some ⟨q, 0, none⟩), .int .i64 0]) ∧ BkAt w' base q p G (Bks.opens t).2 ∧ (∀ i, G i → TapeD p ov i ∨ w.heap.size ≤ i) ∧ Mv (TapeD p ov) w w' := by
  have hd : t.down = false := by
    cases hd : t.down with
    | false => rfl
    | true => unfold Bks.opens at h0; rw [if_pos hd] at h0; cases h0
  have hby := bytes_any base p ov t w h
  simp only [hd, Bool.false_eq_true, if_false] at hby
  have hok := h.ok
  obtain ⟨L, hL⟩ : ∃ L, L = Bks.all t := ⟨_, rfl⟩
  have hLl : L.length ≤ 2000000 := by
    obtain ⟨k1, k2, k3⟩ := hok
    rw [hL]; unfold Bks.all; rw [List.length_append]; omega
  have hop : Bks.opens t = if (readAns L).2 < L.length then (if (t.repl (L.take (readAns L).2)).1 ≠ 0 then ((t.repl (L.take (readAns L).2)).1, ⟨[], false, (t.repl (L.take (readAns L).2)).2⟩) else (0, ⟨(readAns L).1, false, (t.repl (L.take (readAns L).2)).2⟩)) else (0, ⟨(readAns L).1, false, t⟩) := by
    unfold Bks.opens
    rw [if_neg (by rw [hd]; decide), hL]
  rw [show t.sure ++ t.loose = L from hL.symm] at hby
  rw [hop] at h0
  obtain ⟨OP, hOP⟩ : ∃ OP, OP = Bks.opens t := ⟨_, rfl⟩
  rw [← hOP]
  rw [hop] at hOP
  have hfit := (read_take L).1
  have hle : (readAns L).2 ≤ L.length := by
    obtain ⟨_, h2, s, h3, _⟩ := read_take L
    have := congrArg List.length h3
    rw [List.length_append] at this
    omega
  have H := Lib.hid h
  have HBY := Lib.hid hby
  clear hby hok hL hop h hd
  obtain ⟨RL, hRL⟩ : ∃ RL, RL = (readAns L).1 := ⟨_, rfl⟩
  obtain ⟨u, hu⟩ : ∃ u, u = (readAns L).2 := ⟨_, rfl⟩
  rw [← hRL, ← hu] at h0 hOP
  rw [← hRL] at hfit
  rw [← hu] at hle
  have HRL := Lib.hid hRL
  have HU := Lib.hid hu
  have HFIT := Lib.hid hfit
  have H0 := Lib.hid h0
  have HOP := Lib.hid hOP
  clear hRL hu hfit h0 hOP
  go_enter Tryz.func18, Tryz.ntmps18
  go_wp2_with fail
  refine HBY.out.mono ?_
  rintro e w1 ⟨A, c, rfl, ho1, hb1⟩
  have HO1 := Lib.hid (HoldB.ofOwn ho1)
  have HP := Lib.hid (pread_any L A c w1 ho1.rdB hLl)
  have HB1 := Lib.hid hb1
  have hbs1 := hb1.size
  have hcl : L.length ≤ c := by
    obtain ⟨A0, c0, e, h, _⟩ := ho1.rdB
    injection e with _ _ e
    rw [e]; exact h
  clear ho1 hb1 HBY
  go_wp2_with fail
  refine HP.out.mono ?_
  rintro e w2 ⟨A', c', n, rfl, rows, hn, ho2, hh2, ht2, hb2⟩
  rw [← HU.out]
  rw [← HRL.out] at ht2
  have HO2 := Lib.hid (ho2.lower hbs1)
  have HH2 := Lib.hid (hh2.lower hbs1)
  have HB2 := Lib.hid (HB1.out.trans (hb2.mono hbs1))
  have HO12 := Lib.hid (HO1.out.below hb2 (Nat.le_refl _))
  have HT2 := Lib.hid ht2
  have HN := Lib.hid hn
  have hbs2 := HB2.out.size
  have htp : TapeAt w2 base p ov t := H.out.mv (Mv.of_new HB2.out (fun _ => False)) (fun h => h) (fun _ _ h => h)
  have HTP := Lib.hid htp
  have hlen : ∀ r ∈ rows, r.l.length ≤ 140737488351232 := by
    intro r hr
    have := HFIT.out r.l (by rw [← HT2.out]; exact List.mem_map.2 ⟨r, hr, rfl⟩)
    unfold fitR at this
    omega
  have HLEN := Lib.hid hlen
  clear ho2 hh2 hb2 ht2 hn htp HP hlen
  by_cases hlt : u < L.length
  · have hlt2 : (u : Int) < (L.length : Int) := by omega
    have h0 := H0.out
    have hop := HOP.out
    rw [if_pos hlt] at h0 hop
    have hr0 : (t.repl (L.take u)).1 = 0 := by
      by_cases h : (t.repl (L.take u)).1 = 0
      · exact h
      · rw [if_pos h] at h0; exact absurd h0 h
    rw [if_neg (by rw [hr0]; decide)] at hop
    have HOP2 := Lib.hid hop; clear hop
    have hrep := repl_any base p ov t (.slice A u c) (L.take u) w2 HTP.out (fun wx hmx => by
      have hx := HO12.out.mv hmx (fun g hg hd => by
        have h1 := (HO12.out.low hg).1
        rcases hd with hd | hd
        · have := H.out.low; omega
        · have := (H.out.row hd.symm).2; omega)
      exact Rd.take (k := 1) hx.rdB u hle) (by simp; omega)
    rw [hr0] at hrep
    have HREP := Lib.hid hrep
    have huc : (u : Int) ≤ (c : Int) := by omega
    clear hrep hr0 h0
    go_wp2_with fail
    refine HREP.out.mono ?_
    rintro e w3 ⟨rfl, ov3, hnow, hmv, hnew⟩
    have hbs3 := hmv.size
    have hDr : ∀ g, w.heap.size ≤ g → ¬ TapeD p ov g := by
      rintro g hg (hd | hd)
      · have := H.out.low; omega
      · have := (H.out.row hd.symm).2; omega
    have HMV := Lib.hid hmv
    have HNEW := Lib.hid hnew
    have HNOW := Lib.hid hnow
    have HD := Lib.hid hDr
    clear hnow hmv hnew hDr HREP
    go_wp2_with fail
    go_ret2
    obtain ⟨G, hG1, hG2⟩ := BkAt.made (m := w3.heap.size) H.out (Nat.le_trans hbs2 hbs3) HNOW.out HN.out (OwnR.mv HO2.out HMV.out (fun g hg => HD.out g (HO2.out.low hg).1)) (HH2.out.mv HMV.out (fun r hr g hg => HD.out g ((HH2.out r hr).low hg).1)) HLEN.out
      (fun r hr g hg => HNEW.out.out ((HH2.out r hr).low hg).2 (fun e => by have := (H.out.row e).2; have := ((HH2.out r hr).low hg).1; omega)) (fun g hg => by rcases HNEW.out g hg with h | h; exact .inl h; exact .inr (Nat.le_trans hbs2 h)) rfl
    refine ⟨w3.heap.size, G, rfl, ?_, hG2, ((Mv.of_new HB2.out _).trans HMV.out (fun _ _ h => h)).alloc _⟩
    rw [HOP2.out, ← HT2.out]
    exact hG1
  · have hlt2 : ¬ (u : Int) < (L.length : Int) := by omega
    have hop := HOP.out
    rw [if_neg hlt] at hop
    have HOP2 := Lib.hid hop; clear hop
    go_wp2_with fail
    go_ret2
    obtain ⟨G, hG1, hG2⟩ := BkAt.made (m := w2.heap.size) H.out hbs2 HTP.out HN.out HO2.out HH2.out HLEN.out (fun r hr g hg e => by have := (H.out.row e).2; have := ((HH2.out r hr).low hg).1; omega) (fun g hg => .inl hg) rfl
    refine ⟨w2.heap.size, G, rfl, ?_, hG2, (Mv.of_new HB2.out _).alloc _⟩
    rw [HOP2.out, ← HT2.out]
    exact hG1

set_option maxHeartbeats 1000000 in
set_option maxRecDepth 100000 in
theorem nbytes (w : World) : Calls Tryz.prog 35 #[.pointer none] w fun e w' => e = .returned (.tuple #[.slice none 0 0, .int .i64 1]) ∧ w' = w := by
  go_enter Tryz.func35, Tryz.ntmps35
  go_wp2_with fail
  go_ret2
  exact ⟨rfl, rfl⟩
set_option maxHeartbeats 1000000 in
set_option maxRecDepth 100000 in
theorem bnone_open (w : World) : Calls Tryz.prog 18 #[.pointer none] w fun e w' => e = .returned (.tuple #[.pointer none, .int .i64 1]) ∧ Below w.heap.size w w' := by
  have HN := Lib.hid (nbytes w)
  go_enter Tryz.func18, Tryz.ntmps18
  go_wp2_with fail
  refine HN.out.mono ?_
  rintro e w1 ⟨rfl, rfl⟩
  go_wp2_with fail
  go_ret2
  exact ⟨rfl, Below.refl _ _⟩
end Go.Proofs.YtbifnogocmgddaaGreat
