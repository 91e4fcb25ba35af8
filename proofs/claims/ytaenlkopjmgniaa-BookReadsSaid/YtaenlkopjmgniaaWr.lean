/- The writer: what its calls leave. -/
import Derived.Test.YtaenlkopjmgniaaBlk
import Derived.Test.YtaenlkopjmgniaaRPutText
import Derived.Test.YtaenlkopjmgniaaPlanB
namespace Go.Proofs.Ytaenlkopjmgniaa
open Go.RowKit

set_option maxRecDepth 100000 in
/-- a writer at block p: what was written till now, and its error -/
def Wr (w : World) (base p : Nat) (l : List UInt8) (e : Int) : Prop :=
  ∃ A c, Whole w p 85 [.slice A l.length c, .int .i64 e] ∧ OwnB w base (.slice A l.length c) l ∧ base ≤ p ∧ base ≤ w.heap.size
set_option maxRecDepth 100000 in
theorem Wr.more {w w' : World} {base p B : Nat} {l : List UInt8} {e : Int} (h : Wr w base p l e) (hb : Below B w w') (hB : w.heap.size ≤ B) : Wr w' base p l e := by
  obtain ⟨A, c, hw, ho, hp, hs⟩ := h
  exact ⟨A, c, hw.below hb (Nat.lt_of_lt_of_le hw.size hB), ho.below hb hB, hp, Nat.le_trans hs hb.size⟩

set_option maxHeartbeats 1000000 in
set_option maxRecDepth 100000 in
theorem clone_any (l : List UInt8) (v : Value) (w : World) (hv : RdB w w.heap.size v l) (hl : l.length ≤ 140737488351232) :
    Calls Try.prog 55 #[v] w fun e w' => ∃ A c, e = .returned (.slice A l.length c) ∧ OwnB w' w.heap.size (.slice A l.length c) l ∧ Below w.heap.size w w' := by
  obtain ⟨A, c, rfl, hc, hi⟩ := hv.at
  have HV := Lib.hid hv; clear hv
  cases A with
  | none =>
    have hl0 : l = [] := by
      cases l with
      | nil => rfl
      | cons x r => obtain ⟨b, o, hA, _⟩ := hi 0 (by simp); cases hA
    subst hl0
    clear hi
    have hnil := fun W => Lib.run_eql_slice_nil (P := Try.prog) W 36 5 none 0 c 0 0 Try.underlying36
    go_enter Try.func55, Try.ntmps55
    go_wp2_with fail
    go_ret
    exact ⟨_, _, rfl, Own.nil _ _, Below.refl _ _⟩
  | some ad =>
    clear hi
    have hnil := fun W => Lib.run_eql_slice_nil (P := Try.prog) W 36 5 (some ad) l.length c 0 0 Try.underlying36
    go_enter Try.func55, Try.ntmps55
    go_wp2_with (at_builtin; go_must (refine wpList_addBG rfl _ _ rfl w.heap.size _ [] rfl (Own.empty _ _ (Nat.le_refl _)) w.heap.size _ l rfl (HV.out.below ((Below.refl _ _).alloc (Nat.le_refl _) _) (Nat.le_refl _)) (by simp; omega) (by simp) ?_))
    intro A' c' w' ho hg
    have HO := Lib.hid (show OwnB w' w.heap.size (.slice A' l.length c') l from ho.out)
    have HG := Lib.hid hg.out
    go_wp2_with fail
    go_ret
    exact ⟨A', c', rfl, HO.out, ((Below.refl _ w).alloc (Nat.le_refl _) _).grown HG.out (by simp) (by simp [Value.ownBlock])⟩

set_option maxHeartbeats 1000000 in
set_option maxRecDepth 100000 in
theorem behind_any (l : List UInt8) (v : Value) (w : World) (hv : RdB w w.heap.size v l) (hl : l.length ≤ 140737488351232) :
    Calls Try.prog 51 #[v] w fun e w' => ∃ p, e = .returned (.pointer (some ⟨p, 0, none⟩)) ∧ Wr w' w.heap.size p l 0 ∧ Below w.heap.size w w' := by
  have hc := clone_any l v w hv hl
  have HC := Lib.hid hc; clear hc
  clear hv
  go_enter Try.func51, Try.ntmps51
  go_wp2_with fail
  refine HC.out.mono ?_
  rintro e w1 ⟨A, c, rfl, ho, hb⟩
  have HO := Lib.hid ho; clear ho
  have HB := Lib.hid hb; clear hb
  go_wp2_with fail
  go_ret
  exact ⟨_, rfl, ⟨A, c, Whole.fresh _ _ [_, _], HO.out.alloc _, HB.out.size, by simp; exact Nat.le_succ_of_le HB.out.size⟩, HB.out.alloc HB.out.size _⟩

set_option maxRecDepth 100000 in
/-- the first error -/
def firstErr (e f : Int) : Int := if e = 0 then f else e
set_option maxRecDepth 100000 in
def IsZ (e : Int) : Prop := e = 0

set_option maxHeartbeats 1000000 in
set_option maxRecDepth 100000 in
theorem or_any (e f : Int) (g c : Nat) (w : World) (h0 : w.cell? ⟨g, 0, none⟩ = some (.int .i64 e)) (h1 : w.cell? ⟨g, 1, none⟩ = some (.int .i64 f)) :
    Calls Try.prog 58 #[.slice (some ⟨g, 0, none⟩) 2 c] w fun x w' => x = .returned (.int .i64 (firstErr e f)) ∧ w' = w := by
  obtain ⟨R, hR⟩ : ∃ R, R = firstErr e f := ⟨_, rfl⟩
  rw [← hR]
  unfold firstErr at hR
  have HR := Lib.hid hR; clear hR
  go_enter Try.func58, Try.ntmps58
  go_wp2_with fail
  go_loop [8] (fun kv => kv = .int .i64 0 ∨ (kv = .int .i64 1 ∧ IsZ e) ∨ (kv = .int .i64 2 ∧ IsZ e ∧ IsZ f)) (fun kv => 2 - (intOf kv).toNat)
  case atStart => exact .inl rfl
  case round =>
    rcases hrel with rfl | ⟨rfl, he⟩ | ⟨rfl, he, hf⟩
    · by_cases hz : e = 0
      · have HZ : IsZ e := hz
        subst hz
        go_wp2_with fail
        go_round
        case rel => exact .inr (.inl ⟨by go_num, HZ⟩)
        case measure => simp [intOf]
      · have hr := HR.out
        rw [if_neg hz] at hr
        have HR2 := Lib.hid hr; clear hr
        go_wp2_with fail
        go_ret
        exact ⟨by rw [HR2.out]; rfl, rfl⟩
    · have hr := HR.out
      rw [if_pos (show e = 0 from he)] at hr
      have HR2 := Lib.hid hr; clear hr
      by_cases hz : f = 0
      · have HZ : IsZ f := hz
        subst hz
        go_wp2_with fail
        go_round
        case rel => exact .inr (.inr ⟨by go_num, he, HZ⟩)
        case measure => simp [intOf]
      · go_wp2_with fail
        go_ret
        exact ⟨by rw [HR2.out]; rfl, rfl⟩
    · have hr := HR.out
      rw [if_pos (show e = 0 from he), show f = 0 from hf] at hr
      have HR2 := Lib.hid hr; clear hr
      go_wp2_with fail
      go_ret
      exact ⟨by rw [HR2.out]; rfl, rfl⟩

set_option maxHeartbeats 1000000 in
set_option maxRecDepth 100000 in
theorem wfail_any (base p : Nat) (l : List UInt8) (e f : Int) (w : World) (hw : Wr w base p l e) :
    Calls Try.prog 56 #[.pointer (some ⟨p, 0, none⟩), .int .i64 f] w fun x w' => x = .returned (.pointer (some ⟨p, 0, none⟩)) ∧ Wr w' base p l (firstErr e f) ∧ Below base w w' := by
  obtain ⟨A, c, hb, ho, hp, hs⟩ := hw
  have c0 := hb.cell 0 _ rfl
  have c1 := hb.cell 1 _ rfl
  have f1 := hb.frozen 1
  have hlt := hb.size
  have HB := Lib.hid hb; clear hb
  have HO := Lib.hid ho; clear ho
  go_enter Try.func56, Try.ntmps56
  go_wp2_with fail
  refine (or_any e f w.heap.size 2 _ (by go_simp) (by go_simp)).mono ?_
  rintro x w1 ⟨rfl, rfl⟩
  go_wp2_with fail
  go_ret
  refine ⟨rfl, ⟨A, c, (HB.out.put 1 _).alloc _, (HO.out.put HB.out (by decide) 1 _).alloc _, hp, by simp; omega⟩, ((Below.refl _ _).setCell hp _).alloc (by simpa using hs) _⟩

set_option maxHeartbeats 1000000 in
set_option maxRecDepth 100000 in
theorem wdone_any (base p : Nat) (l : List UInt8) (e : Int) (w : World) (hw : Wr w base p l e) :
    Calls Try.prog 53 #[.pointer (some ⟨p, 0, none⟩)] w fun x w' => ∃ v', x = .returned (.tuple #[v', .int .i64 e]) ∧ RdB w' w'.heap.size v' (if e = 0 then l else []) ∧ Below base w w' := by
  obtain ⟨A, c, hb, ho, hp, hs⟩ := hw
  have c0 := hb.cell 0 _ rfl
  have c1 := hb.cell 1 _ rfl
  have hlt := hb.size
  have HO := Lib.hid ho; clear ho
  clear hb
  by_cases he : e = 0
  · subst he
    go_enter Try.func53, Try.ntmps53
    go_wp2_with fail
    go_ret2
    exact ⟨_, rfl, HO.out.rdB, Below.refl _ _⟩
  · rw [if_neg he]
    go_enter Try.func53, Try.ntmps53
    go_wp2_with fail
    refine wp_region_planB [(true, 0), (true, 1), (true, 2), (true, 3), (true, 4), (true, 5)] (by kernel_rfl) (by kernel_rfl) (fun _ _ d _ _ h => by cases d <;> exact h) ?_
    repeat (refine PlanB.take (v := ?_) rfl rfl ?_ ?_; rotate_left; (focus (intro W hW; have k1 := (hW.cell (p := ⟨p, 1, none⟩) hlt).trans c1; go_simp; (try with_reducible rfl); done)); (try simp only [Act.put, List.setIfInBounds_toArray, List.set_cons_zero, List.set_cons_succ]))
    simp only [PlanB]
    go_wp2_with fail
    go_ret2
    exact ⟨_, rfl, Rd.nil _ _, (Below.refl _ _).drew⟩
end Go.Proofs.Ytaenlkopjmgniaa
