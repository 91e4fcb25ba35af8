/- What Num answers. -/
import Derived.Test.YtiijcikdlemndaaRd
namespace Go.Proofs.Ytiijcikdlemndaa
open Go.RowKit

set_option maxRecDepth 100000 in
theorem Below.drewN' {B : Nat} {w w' : World} (h : Below B w w') (n : Nat) : Below B w (w'.drewN n) := ⟨h.os, h.tape, h.output, h.size, h.block⟩
set_option maxRecDepth 100000 in
/-- what is kept behind the reading of a number into a block of one cell -/
theorem NumW.kept {w w' : World} {base p q used : Nat} {v : Value} {t : TypeId} {cs : List Value} {r : Nat × Nat × Nat} {o : Nat} (hw : Rdr w base p v (used : Int) 0) (hq : Whole w q t cs) (hne : q ≠ p) (hbq : base ≤ q) (h : NumW p q o used r w w') :
    Below base w w' ∧ ((r.2.2 = 0 ∧ Rdr w' base p v ((used + r.2.1 : Nat) : Int) 0 ∧ Whole w' q t (cs.set o (.int .i64 (r.1 : Int)))) ∨ (r.2.2 ≠ 0 ∧ Rdr w' base p v 0 (r.2.2 : Int) ∧ Whole w' q t cs)) := by
  rcases h with ⟨h0, k, rfl⟩ | ⟨h0, k, rfl⟩
  · refine ⟨Below.drewN' (((Below.refl _ _).setCell (p := ⟨q, o, none⟩) hbq _).setCell (p := ⟨p, 1, none⟩) hw.2 _) k, .inl ⟨h0, ⟨?_, hw.2⟩, ?_⟩⟩
    · exact ((hw.1.away (p := ⟨q, o, none⟩) (Ne.symm hne) _).put 1 _)
    · exact (hq.put o _).away (p := ⟨p, 1, none⟩) hne _
  · refine ⟨Below.drewN' (((Below.refl _ _).setCell (p := ⟨p, 1, none⟩) hw.2 _).setCell (p := ⟨p, 2, none⟩) hw.2 _) k, .inr ⟨h0, ⟨(hw.1.put 1 _).put 2 _, hw.2⟩, ?_⟩⟩
    exact (hq.away (p := ⟨p, 1, none⟩) hne _).away (p := ⟨p, 2, none⟩) hne _
set_option maxRecDepth 100000 in
theorem NumW.first {w w' : World} {base p q : Nat} {v : Value} {t : TypeId} {l : List UInt8} (hw : Rdr w base p v 0 0) (hq : Whole w q t [.int .i64 0]) (hne : q ≠ p) (hbq : base ≤ q) (h : NumW p q 0 0 (numAns l) w w') :
    Below base w w' ∧ Rdr w' base p v ((numAns l).2.1 : Int) ((numAns l).2.2 : Int) ∧ Whole w' q t [.int .i64 ((numAns l).1 : Int)] := by
  obtain ⟨hb, h⟩ := NumW.kept (used := 0) hw hq hne hbq h
  refine ⟨hb, ?_⟩
  rcases h with ⟨h0, h1, h2⟩ | ⟨h0, h1, h2⟩
  · rw [h0]; rw [Nat.zero_add] at h1; exact ⟨h1, h2⟩
  · rcases numAns_err l with h | h | h
    · exact absurd h h0
    · rw [h] at h1 ⊢; exact ⟨h1, h2⟩
    · rw [h] at h1 ⊢; exact ⟨h1, h2⟩

/-- two blocks stand as they are -/
def Both (q : Nat) (t : TypeId) (cq : List Value) (p : Nat) (tp : TypeId) (cp : List Value) (w0 : World) (B : Nat) (W : World) : Prop := Whole W q t cq ∧ Whole W p tp cp ∧ Below B w0 W

set_option maxHeartbeats 4000000 in
set_option maxRecDepth 100000 in
theorem num_any (l : List UInt8) (v : Value) (w : World) (hv : RdB w w.heap.size v l) (hl : l.length < 4611686018427387904) :
    Calls Try.prog 71 #[v] w fun e w' => e = .returned (numVal (numAns l)) ∧ Below w.heap.size w w' := by
  obtain ⟨A, c, rfl, hc, _⟩ := hv.at
  have hrd := fun (w1 : World) (p : Nat) (h1 : Rdr w1 w.heap.size p (.slice A l.length c) 0 0) (h2 : Whole w1 w.heap.size 3 [.int .i64 0]) (h3 : w.heap.size ≠ p) (h4 : Below w.heap.size w w1) =>
    rdnum_any w.heap.size p l A c 0 w.heap.size 0 (.int .i64 0) w1 h1 (hv.below h4 (Nat.le_refl _)) (Nat.zero_le _) hl (h2.cell 0 _ rfl) (h2.frozen 0) h3 (Nat.le_refl _)
  obtain ⟨R, hR⟩ : ∃ R, R = numAns l := ⟨_, rfl⟩
  have hk := fun (w1 w2 : World) (p : Nat) (h1 : Rdr w1 w.heap.size p (.slice A l.length c) 0 0) (h2 : Whole w1 w.heap.size 3 [.int .i64 0]) (h3 : w.heap.size ≠ p) (h : NumW p w.heap.size 0 0 (numAns l) w1 w2) => NumW.first h1 h2 h3 (Nat.le_refl _) h
  simp only [List.drop_zero] at hrd
  rw [← hR] at hrd hk ⊢
  have HRD := Lib.hid hrd
  have HK := Lib.hid hk
  clear hrd hk hR hv
  go_enter Try.func71, Try.ntmps71
  go_wp2_with fail
  refine (from_any _ _ A l.length c rfl).mono ?_
  rintro e w1 ⟨p, rfl, hr1, hb1, hp⟩
  have hw1 : Whole w1 w.heap.size 3 [.int .i64 0] := (Whole.fresh w 3 [.int .i64 0]).below hb1 (by simp)
  have hne : w.heap.size ≠ p := by rw [hp]; simp
  have hr2 : Rdr w1 w.heap.size p (.slice A l.length c) 0 0 := ⟨hr1.1, by rw [hp]; simp⟩
  have hb2 : Below w.heap.size w w1 := ((Below.refl _ _).alloc (Nat.le_refl _) _).trans (hb1.mono (by simp))
  have HC := Lib.hid (HRD.out w1 p hr2 hw1 hne hb2)
  have HK2 := Lib.hid (fun w2 => HK.out w1 w2 p hr2 hw1 hne)
  have HB2 := Lib.hid hb2
  have HP := Lib.hid hp
  have HNE := Lib.hid hne
  clear hw1 hr1 hr2 hb1 hb2 hp hne
  go_wp2_with fail
  refine HC.out.mono ?_
  rintro e w2 ⟨rfl, hn⟩
  obtain ⟨hb3, hr3, hq3⟩ := HK2.out w2 hn
  have hB3 := HB2.out.trans hb3
  clear hn hb3
  go_wp2_with fail
  have hS : Both w.heap.size 3 [.int .i64 (R.1 : Int)] p 125 [.slice A l.length c, .int .i64 (R.2.1 : Int), .int .i64 (R.2.2 : Int)] w w.heap.size w2.drew := ⟨hq3, hr3.1, hB3.drew⟩
  refine wp_region_plan (S := Both w.heap.size 3 [.int .i64 (R.1 : Int)] p 125 [.slice A l.length c, .int .i64 (R.2.1 : Int), .int .i64 (R.2.2 : Int)] w w.heap.size) [(true, 0), (true, 1), (true, 2), (true, 3), (true, 4), (true, 5), (true, 6), (true, 7), (true, 8), (false, 9), (true, 10), (true, 11)] (by kernel_rfl) (by kernel_rfl) (fun _ _ d _ _ h => by cases d <;> exact h) hS ?_
  clear hq3 hr3 hB3
  generalize w2.drew = w3 at hS ⊢
  have HS := Lib.hid hS; clear hS
  repeat (refine Plan.take (v := ?_) rfl rfl ?_ ?_; rotate_left; (focus (intro W hW; have k0 := hW.1.cell 0 _ rfl; have k1 := hW.2.1.cell 1 _ rfl; have k2 := hW.2.1.cell 2 _ rfl; go_simp; (try with_reducible rfl); done)); (try simp only [Act.put, List.setIfInBounds_toArray, List.set_cons_zero, List.set_cons_succ]))
  have k0 := HS.out.1.cell 0 _ rfl
  have f0 := HS.out.1.frozen 0
  refine Plan.step rfl rfl (fun Kk hK => ?_)
  go_simp
  have hS2 : Both w.heap.size 3 [.int .i64 (R.1 : Int)] p 125 [.slice A l.length c, .int .i64 (R.2.1 : Int), .int .i64 (R.2.2 : Int)] w w.heap.size (w3.setCell ⟨w.heap.size, 0, none⟩ (.int .i64 (R.1 : Int))) := ⟨HS.out.1.put 0 _, HS.out.2.1.away (p := ⟨w.heap.size, 0, none⟩) (Ne.symm HNE.out) _, HS.out.2.2.setCell (Nat.le_refl _) _⟩
  refine hK.out _ _ hS2 ?_
  clear hK Kk k0 f0 HS
  generalize w3.setCell ⟨w.heap.size, 0, none⟩ (.int .i64 (R.1 : Int)) = w4 at hS2 ⊢
  have HS := Lib.hid hS2; clear hS2
  (try simp only [Act.put, List.setIfInBounds_toArray, List.set_cons_zero, List.set_cons_succ])
  repeat (refine Plan.take (v := ?_) rfl rfl ?_ ?_; rotate_left; (focus (intro W hW; go_simp; (try with_reducible rfl); done)); (try simp only [Act.put, List.setIfInBounds_toArray, List.set_cons_zero, List.set_cons_succ]))
  simp only [Plan]
  have k0 := HS.out.1.cell 0 _ rfl
  go_wp2_with fail
  exact bodyPost_ret (v := numVal R) (by simp [results, Try.results71, go_sem, k0, numVal]) rfl ⟨rfl, HS.out.2.2⟩
end Go.Proofs.Ytiijcikdlemndaa
