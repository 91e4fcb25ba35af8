/- The reference's ends of spans. -/
import Derived.Test.YtdkdolcocblhkaaEnds
import Derived.Test.YtdkdolcocblhkaaPlan
namespace Go.Proofs.Ytdkdolcocblhkaa
open Go.RowKit
attribute [local go_sem] less_eq same_eq le_eq ge_eq gt_eq

def ends2 (E : List K) (s : K × K) : List K := ins (ins E s.1) s.2
theorem ins_len (l : List K) (s : K) : (ins l s).length ≤ l.length + 1 := by
  unfold ins
  split
  · omega
  · simp; omega

/-- the two cells of one span, in whatever world the statement comes to -/
def HeldE (w : World) (B b o : Nat) (s : K × K) (W : World) : Prop := W.cell? ⟨b, o, none⟩ = some (.string s.1) ∧ W.cell? ⟨b, o + 1, none⟩ = some (.string s.2) ∧ Below B w W ∧ b < W.heap.size ∧ B ≤ W.heap.size
theorem HeldE.below {w : World} {B b o : Nat} {s : K × K} {W W' : World} (h : HeldE w B b o s W) (hb : Below W.heap.size W W') : HeldE w B b o s W' :=
  ⟨(hb.cell (p := ⟨b, o, none⟩) h.2.2.2.1).trans h.1, (hb.cell (p := ⟨b, o + 1, none⟩) h.2.2.2.1).trans h.2.1, h.2.2.1.trans (hb.mono h.2.2.2.2), Nat.lt_of_lt_of_le h.2.2.2.1 hb.size, Nat.le_trans h.2.2.2.2 hb.size⟩

set_option maxHeartbeats 1000000 in
set_option maxRecDepth 100000 in
theorem ends_any (l : List (K × K)) (v : Value) (w : World) (hv : RdS w w.heap.size v l) (hl : l.length ≤ 100) : Calls Try.prog 64 #[v] w fun e w' =>
    ∃ A c, e = .returned (.slice A (l.foldl ends2 []).length c) ∧ RdK w' w'.heap.size (.slice A (l.foldl ends2 []).length c) (l.foldl ends2 []) ∧ Below w.heap.size w w' ∧ (l.foldl ends2 []).length ≤ 200 := by
  obtain ⟨A, c, rfl, hc, hi⟩ := hv
  obtain ⟨R, hR⟩ : ∃ R, R = l.foldl ends2 [] := ⟨_, rfl⟩
  rw [← hR]
  have HR := Lib.hid hR; clear hR
  have HI := Lib.hid hi; clear hi
  obtain ⟨B, hB⟩ : ∃ B, B = w.heap.size := ⟨_, rfl⟩
  rw [← hB] at HI
  have hb0 : Below B w (w.alloc (.cells #[] 9)) := (Below.refl _ w).alloc (by omega) _
  have hr0 : RdK (w.alloc (.cells #[] 9)) (w.heap.size + 1) (.slice (some ⟨w.heap.size, 0, none⟩) 0 0) [] := Rd.none_ _ _ _ _
  have hB' : B ≤ w.heap.size := by omega
  rw [← hB]
  clear hB
  have HB0 := Lib.hid hb0; clear hb0
  have HR0 := Lib.hid hr0; clear hr0
  go_enter Try.func64, Try.ntmps64
  go_wp2_with fail
  go_loopw [3, 4] (fun ov i wr => ∃ (j : Nat) (E : List K), j ≤ l.length ∧ i = .int .i64 j ∧ Below B w wr ∧ RdK wr wr.heap.size ov E ∧ E = (l.take j).foldl ends2 [] ∧ E.length ≤ 2 * j) (fun _ i _ => l.length - (intOf i).toNat)
  case atStart => exact ⟨0, [], Nat.zero_le _, rfl, HB0.out, by simpa using HR0.out, rfl, by simp⟩
  case round =>
    obtain ⟨j, E, hj, rfl, hbw, hr, hE0, hE2⟩ := hrel
    have HE0 := Lib.hid hE0; clear hE0
    by_cases hlt : j < l.length
    · obtain ⟨b, o, rfl, hbB, h1, h2⟩ := HI.out j l[j] (List.getElem?_eq_getElem hlt)
      have hz := hbw.size
      have hold : HeldE w B b (o + j * 2) l[j] wr.drew := ⟨(hbw.cell (p := ⟨b, _, none⟩) hbB).trans h1, (hbw.cell (p := ⟨b, _, none⟩) hbB).trans h2, hbw.drew, by show b < wr.heap.size; omega, by show B ≤ wr.heap.size; omega⟩
      have hE : E.length ≤ 1000 := by omega
      have hE1 : (ins E l[j].1).length ≤ 1000 := by have := ins_len E l[j].1; omega
      have hst : (l.take (j + 1)).foldl ends2 [] = ends2 E l[j] := by rw [List.take_succ_eq_append_getElem hlt, List.foldl_append, ← HE0.out]; rfl
      have HS := Lib.hid hst; clear hst h1 h2
      replace hr : RdK wr.drew wr.drew.heap.size u3 E := hr
      go_wp2_with fail
      refine wp_region_plan (S := HeldE w B b (o + j * 2) l[j]) [(true, 0), (true, 1), (true, 2), (true, 3), (true, 4), (true, 5), (true, 7), (true, 8), (true, 9), (true, 10), (true, 11), (false, 6), (false, 12), (true, 13)] (by kernel_rfl) (by kernel_rfl) (fun _ _ d _ _ h => by cases d <;> exact h) hold ?_
      repeat (first | (refine Plan.take (v := ?_) rfl rfl ?_ ?_; rotate_left; (focus (intro W hW; obtain ⟨c1, c2, _, _⟩ := hW; go_simp; (try with_reducible rfl); done)); (try simp only [Act.put, List.setIfInBounds_toArray, List.set_cons_zero, List.set_cons_succ])) | (refine Plan.skip rfl rfl ?_; (try simp only [Act.put, List.setIfInBounds_toArray, List.set_cons_zero, List.set_cons_succ])) | (refine Plan.pass rfl rfl hold ?_; (try simp only [Act.put, List.setIfInBounds_toArray, List.set_cons_zero, List.set_cons_succ])) | (refine Plan.step rfl rfl (fun Kk hK => ?_); go_simp; (go_at_call 72; first | ((with_reducible refine (insert_any E l[j].1 u3 _ hr hE).mono ?_); rintro e w' ⟨A1, c1, rfl, hr1, hb⟩) | ((with_reducible refine (insert_any (ins E l[j].1) l[j].2 _ _ hr1 hE1).mono ?_); rintro e w' ⟨A2, c2, rfl, hr2, hb⟩)); refine hK.out _ _ (hold.below hb) ?_; replace hold := hold.below hb; clear hK Kk hb; (try simp only [Act.put, List.setIfInBounds_toArray, List.set_cons_zero, List.set_cons_succ])))
      simp only [Plan]
      go_wp2_with fail
      go_roundw
      case rel =>
        refine ⟨j + 1, ends2 E l[j], by omega, by go_num, hold.2.2.1, hr2, HS.out.symm, ?_⟩
        have h1 := ins_len E l[j].1
        have h2 := ins_len (ins E l[j].1) l[j].2
        unfold ends2
        omega
      case measure => simp [intOf]; omega
    · obtain rfl : j = l.length := by omega
      have HRD := Lib.hid hr
      obtain ⟨A9, c9, rfl, _⟩ := hr
      go_wp2_with fail
      go_ret
      have hfin : R = E := by rw [HR.out, HE0.out, List.take_length]
      subst hfin
      exact ⟨A9, c9, rfl, HRD.out, hbw, by omega⟩
end Go.Proofs.Ytdkdolcocblhkaa
