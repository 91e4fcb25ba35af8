/- How many bytes changes weigh: add, Weight. -/
import Derived.Test.YtdkdolcocblhkaaPro
import Derived.Test.YtdkdolcocblhkaaWhole
namespace Go.Proofs.Ytdkdolcocblhkaa
open Go.RowKit

theorem room_for (S x : Nat) (h : S + x ≤ 4611686018427387904) : IntKind.i64.wrap (9223372036854775807 - (S : Int)) = 9223372036854775807 - (S : Int) ∧ ¬ (9223372036854775807 - (S : Int) < (x : Int)) ∧ IntKind.i64.wrap ((S : Int) + (x : Int)) = (S : Int) + (x : Int) := by
  refine ⟨?_, ?_, ?_⟩
  · rw [IntKind.wrap_i64]; omega
  · omega
  · rw [IntKind.wrap_i64]; omega

set_option maxHeartbeats 2000000 in
set_option maxRecDepth 100000 in
theorem add3_any (s a b d : Nat) (h : s + a + b + d ≤ 4611686018427387904) (w : World) (vb : Nat) (hv : Whole w vb 3 [.int .i64 a, .int .i64 b, .int .i64 d]) :
    Calls Try.prog 32 #[.int .i64 s, .slice (some ⟨vb, 0, none⟩) 3 3] w fun e w' => e = .returned (.int .i64 ((s + a + b + d : Nat) : Int)) ∧ w' = w := by
  have k0 := hv.cell 0 _ rfl
  have k1 := hv.cell 1 _ rfl
  have k2 := hv.cell 2 _ rfl
  clear hv
  obtain ⟨f, hf⟩ : ∃ f : Nat → Nat, f = fun i => if i = 0 then s else if i = 1 then s + a else if i = 2 then s + a + b else s + a + b + d := ⟨_, rfl⟩
  obtain ⟨x, hx⟩ : ∃ x : Nat → Nat, x = fun i => if i = 0 then a else if i = 1 then b else d := ⟨_, rfl⟩
  have hc : ∀ i, i < 3 → w.cell? ⟨vb, i, none⟩ = some (.int .i64 (x i)) := fun i hi => by
    match i, hi with
    | 0, _ => rw [hx]; exact k0
    | 1, _ => rw [hx]; exact k1
    | 2, _ => rw [hx]; exact k2
  have hstep : ∀ i, i < 3 → f (i + 1) = f i + x i ∧ f i + x i ≤ 4611686018427387904 := fun i hi => by
    match i, hi with
    | 0, _ => rw [hf, hx]; simp; omega
    | 1, _ => rw [hf, hx]; simp; omega
    | 2, _ => rw [hf, hx]; simp; omega
  have h0 : s = f 0 := by rw [hf]; rfl
  have h3 : s + a + b + d = f 3 := by rw [hf]; rfl
  rw [h3, h0]
  have HC := Lib.hid hc
  have HS := Lib.hid hstep
  clear hc hstep h0 h3 hf hx k0 k1 k2 h
  go_enter Try.func32, Try.ntmps32
  go_wp2_with fail
  go_loop [0, 9] (fun sv iv => ∃ i : Nat, i ≤ 3 ∧ iv = .int .i64 i ∧ sv = .int .i64 (f i)) (fun _ iv => 3 - (intOf iv).toNat)
  case atStart => exact ⟨0, Nat.zero_le _, rfl, rfl⟩
  case round =>
    obtain ⟨i, hi, rfl, rfl⟩ := hrel
    by_cases hlt : i < 3
    · have g := HC.out i hlt
      obtain ⟨e1, e2⟩ := HS.out i hlt
      obtain ⟨r1, r2, r3⟩ := room_for (f i) (x i) e2
      have E1 := Lib.hid e1
      clear e1 e2
      have hi3 : (i : Int) < 3 := by omega
      go_wp2_with fail
      exact ⟨⟨i + 1, by omega, by go_num, by rw [E1.out]; simp⟩, by simp [intOf]; omega⟩
    · obtain rfl : i = 3 := by omega
      go_wp2_with fail
      go_ret
      exact ⟨rfl, rfl⟩

/-- bytes of all keys and values, and 8 for each -/
def wsum (l : List Chg) : Nat := (l.map (fun c => c.key.size + c.val.size + 8)).sum
theorem wsum_take (l : List Chg) (i : Nat) (h : i < l.length) : wsum (l.take (i + 1)) = wsum (l.take i) + 8 + l[i].key.size + l[i].val.size := by
  unfold wsum
  rw [List.take_succ_eq_append_getElem h, List.map_append, List.sum_append]
  simp
  omega
theorem wsum_le (l : List Chg) (h : ∀ c ∈ l, c.key.size ≤ 140737488351232 ∧ c.val.size ≤ 140737488351232) : wsum l ≤ l.length * 281474976702472 := by
  induction l with
  | nil => simp [wsum]
  | cons c r ih =>
    have h1 := ih fun x hx => h x (by simp [hx])
    have h2 := h c (by simp)
    have e : wsum (c :: r) = c.key.size + c.val.size + 8 + wsum r := by simp [wsum]
    rw [e, List.length_cons, Nat.add_mul]
    omega

set_option maxHeartbeats 2000000 in
set_option maxRecDepth 100000 in
theorem weight_any (l : List Chg) (hs : ∀ c ∈ l, c.key.size ≤ 140737488351232 ∧ c.val.size ≤ 140737488351232) (v : Value) (w : World) (hv : RdC w w.heap.size v l) (hl : l.length ≤ 1000) :
    Calls Try.prog 15 #[v] w fun e w' => e = .returned (.int .i64 (wsum l : Nat)) ∧ Below w.heap.size w w' := by
  obtain ⟨A, c, rfl, hc, hi⟩ := hv.at
  have hmono : ∀ i, wsum (l.take i) ≤ l.length * 281474976702472 := fun i =>
    Nat.le_trans (wsum_le _ (fun c hc => hs c (List.mem_of_mem_take hc))) (Nat.mul_le_mul_right _ (by rw [List.length_take]; omega))
  have HM := Lib.hid hmono; clear hmono
  have HI := Lib.hid hi; clear hi
  have HS := Lib.hid hs; clear hs
  clear hv
  obtain ⟨R, hR⟩ : ∃ R, R = wsum l := ⟨_, rfl⟩
  rw [← hR]
  have HR := Lib.hid hR; clear hR
  obtain ⟨g, hg⟩ : ∃ g, g = w.heap.size := ⟨_, rfl⟩
  have HG := Lib.hid hg; clear hg
  go_enter Try.func15, Try.ntmps15
  go_wp2_with fail
  go_loopw [3, 8] (fun sv iv wr => ∃ i S : Nat, i ≤ l.length ∧ iv = .int .i64 i ∧ sv = .int .i64 S ∧ Below g w wr ∧ Hid (S = wsum (l.take i))) (fun _ iv _ => l.length - (intOf iv).toNat)
  case atStart => exact ⟨0, 0, Nat.zero_le _, rfl, rfl, Below.refl _ _, Lib.hid (by simp [wsum])⟩
  case round =>
    obtain ⟨i, S, hil, rfl, rfl, hbw, HSM⟩ := hrel
    have HBW := Lib.hid hbw; clear hbw
    by_cases hlt : i < l.length
    · obtain ⟨b, o, rfl, hbB, k0, k1, k2⟩ := HI.out i hlt
      have hsm := HS.out l[i] (List.getElem_mem hlt)
      have hst := wsum_take l i hlt
      rw [← HSM.out] at hst
      have hM := HM.out i
      rw [← HSM.out] at hM
      rw [← HBW.out.cell (p := ⟨b, _, none⟩) (by rw [HG.out]; exact hbB)] at k0
      rw [← HBW.out.cell (p := ⟨b, _, none⟩) (by rw [HG.out]; exact hbB)] at k1
      rw [← HBW.out.cell (p := ⟨b, _, none⟩) (by rw [HG.out]; exact hbB)] at k2
      generalize l[i] = z at k0 k1 k2 hsm hst
      obtain ⟨kz, xz, yz⟩ := z
      simp only at k0 k1 k2 hsm hst
      have hadd := fun W vb h => add3_any S 8 xz.size yz.size (by omega) W vb h
      have HA := Lib.hid hadd; clear hadd
      have HST := Lib.hid hst; clear hst
      clear hsm hM
      go_wp2_with fail
      have HB2 := Lib.hid (show Below g w ((wr.alloc (.cells #[.int .i64 kz, .string xz, .string yz] 23)).alloc (.cells #[.int .i64 8, .int .i64 (xz.size : Nat), .int .i64 (yz.size : Nat)] 3)) from (HBW.out.alloc (by rw [HG.out]; exact HBW.out.size) _).alloc (by rw [World.size_alloc, HG.out]; have := HBW.out.size; omega) _)
      refine (HA.out _ (wr.heap.size + 1) ?_).mono ?_
      · have h := Whole.fresh (wr.alloc (.cells #[.int .i64 kz, .string xz, .string yz] 23)) 3 [.int .i64 8, .int .i64 (xz.size : Nat), .int .i64 (yz.size : Nat)]
        rw [World.size_alloc] at h
        exact h
      rintro e w2 ⟨rfl, rfl⟩
      go_wp2_with fail
      go_roundw
      case rel => exact ⟨i + 1, S + 8 + xz.size + yz.size, by omega, by go_num, rfl, HB2.out, Lib.hid HST.out.symm⟩
      case measure => simp [intOf]; omega
    · have hS := HSM.out
      rw [List.take_of_length_le (by omega), ← HR.out] at hS
      have HS2 := Lib.hid hS; clear hS
      go_wp2_with fail
      go_ret
      exact ⟨by rw [← HS2.out]; rfl, by have h := HBW.out; rwa [HG.out] at h⟩
end Go.Proofs.Ytdkdolcocblhkaa
