/- The program's Marks: the verdict on a transaction; note; sound. The program's Marks: Judge; all calls of it. The key just behind a key: nothing lies between. The simplest facts, which each statement of the marks layer asks first. The simplest facts of the marks layer hold. -/
import Derived.Test.YtgppgecglkellaaGreatFak
import Derived.Test.YtgppgecglkellaaGreatFan
import Derived.Test.YtgppgecglkellaaGreatFao
import Derived.Test.YtgppgecglkellaaGreatFaa
namespace Go.Proofs.YtgppgecglkellaaGreat
open Go.RowKit

set_option maxHeartbeats 8000000 in
set_option maxRecDepth 100000 in
theorem pverdict_any (r : Nat) (L : List Wr) (m : Mk) (hrep : Rep m.f m.floor L) (hok : m.Ok) (hl : L.length ≤ 90000) (t : Txn) (hs : soundT t) (v1 v2 : Value) (w : World) (h : PmRd w r m.floor L) (hv1 : RdP w w.heap.size v1 t.reads) :
    Calls Tryz.prog 24 #[.pointer (some ⟨r, 0, none⟩), tval t v1 v2] w fun e w' => e = .returned (.int .i64 (verd m t)) ∧ Below w.heap.size w w' := by
  obtain ⟨read, reads, chgs⟩ := t
  obtain ⟨R, hR⟩ : ∃ R, R = verd m ⟨read, reads, chgs⟩ := ⟨_, rfl⟩
  rw [← hR]
  unfold verd at hR
  unfold tval
  simp only at hR hv1 ⊢
  have hrd0 : 0 ≤ read := hs.1
  have hrl : reads.length ≤ 24 := hs.2.1
  obtain ⟨A1, c1, rfl, hc1, hi⟩ := hv1.at
  have hb0 : Below w.heap.size w (w.alloc (.cells #[.int .i64 read, .slice A1 reads.length c1, v2] 47)) := (Below.refl _ w).alloc (Nat.le_refl _) _
  have hB0 : Whole (w.alloc (.cells #[.int .i64 read, .slice A1 reads.length c1, v2] 47)) w.heap.size 47 [.int .i64 read, .slice A1 reads.length c1, v2] := Whole.fresh w _ [_, _, _]
  have h0 := h.next hb0
  have hz0 : (w.alloc (.cells #[.int .i64 read, .slice A1 reads.length c1, v2] 47)).heap.size = w.heap.size + 1 := by simp
  obtain ⟨A, cap, hw, -, -⟩ := h
  have hrs := hw.size
  have x0 : ∀ W, Below (w.alloc (.cells #[.int .i64 read, .slice A1 reads.length c1, v2] 47)).heap.size (w.alloc (.cells #[.int .i64 read, .slice A1 reads.length c1, v2] 47)) W → W.cell? ⟨w.heap.size, 0, none⟩ = some (.int .i64 read) := fun W hW => (hB0.below hW hB0.size).cell 0 _ rfl
  have x1 : ∀ W, Below (w.alloc (.cells #[.int .i64 read, .slice A1 reads.length c1, v2] 47)).heap.size (w.alloc (.cells #[.int .i64 read, .slice A1 reads.length c1, v2] 47)) W → W.cell? ⟨w.heap.size, 1, none⟩ = some (.slice A1 reads.length c1) := fun W hW => (hB0.below hW hB0.size).cell 1 _ rfl
  have x2 : ∀ W, Below (w.alloc (.cells #[.int .i64 read, .slice A1 reads.length c1, v2] 47)).heap.size (w.alloc (.cells #[.int .i64 read, .slice A1 reads.length c1, v2] 47)) W → W.cell? ⟨r, 0, none⟩ = some (.int .i64 m.floor) := fun W hW => ((hw.below hb0 hrs).below hW (by rw [hz0]; omega)).cell 0 _ rfl
  have hi0 : ∀ i (_ : i < reads.length), ∃ b o, A1 = some ⟨b, o, none⟩ ∧ b < w.heap.size ∧ (w.alloc (.cells #[.int .i64 read, .slice A1 reads.length c1, v2] 47)).cell? ⟨b, o + i * 2, none⟩ = some (.string reads[i].1) ∧ (w.alloc (.cells #[.int .i64 read, .slice A1 reads.length c1, v2] 47)).cell? ⟨b, o + i * 2 + 1, none⟩ = some (.string reads[i].2) := fun i hlt => by
    obtain ⟨b, o, e, hb, k0, k1⟩ := hi i hlt
    exact ⟨b, o, e, hb, (hb0.cell (p := ⟨b, _, none⟩) hb).trans k0, (hb0.cell (p := ⟨b, _, none⟩) hb).trans k1⟩
  have HB0 := Lib.hid hb0
  have HR0 := Lib.hid h0
  have HZ0 := Lib.hid hz0
  have X0 := Lib.hid x0
  have X1 := Lib.hid x1
  have X2 := Lib.hid x2
  have HI := Lib.hid hi0
  clear hb0 hB0 h0 hz0 hw hrs x0 x1 x2 hi0 hi hv1 hs
  go_enter Tryz.func24, Tryz.ntmps24
  go_wp2_with fail
  generalize w.alloc (.cells #[.int .i64 read, .slice A1 reads.length c1, v2] 47) = w0 at HB0 HR0 HZ0 X0 X1 X2 HI ⊢
  have hd0 : Below w0.heap.size w0 w0.drew := (Below.refl _ w0).drew
  have hlt0 : (0 < (reads.length : Int)) ↔ reads ≠ [] := by
    cases reads with
    | nil => simp
    | cons a l => simp
  by_cases hne : reads = []
  · subst hne
    have hR1 : R = 1 := by
      rw [hR, if_neg (by simp), if_neg]
      rintro ⟨s, hs, _⟩
      simp at hs
    have hzz : decide ((0 : Int) < ((([] : List (K × K)).length : Nat) : Int)) = false := by simp
    clear hR hlt0
    refine wp_region_planB [(true, 0), (true, 1), (true, 2), (true, 3), (true, 4), (true, 5), (true, 6), (true, 7), (true, 8), (true, 9), (true, 10), (true, 11), (true, 12)] (by kernel_rfl) (by kernel_rfl) (fun _ _ d _ _ h => by cases d <;> exact h) ?_
    repeat (first | (refine PlanB.take (v := ?_) rfl rfl ?_ ?_; rotate_left; (focus (intro W hW; have k0 := X0.out W (hd0.trans hW); have k1 := X1.out W (hd0.trans hW); have k2 := X2.out W (hd0.trans hW); go_simp; (try with_reducible rfl); done)); (try simp only [Act.put, List.setIfInBounds_toArray, List.set_cons_zero, List.set_cons_succ])) | (refine PlanB.skip rfl rfl ?_; (try simp only [Act.put, List.setIfInBounds_toArray, List.set_cons_zero, List.set_cons_succ])))
    simp only [PlanB]
    have k1 := X1.out _ hd0
    go_wp2_with fail
    refine wp_loop_rounds 1 ?_
    rw [rounds_succ]
    go_wp2_with fail
    go_ret
    exact ⟨by rw [hR1]; rfl, HB0.out.drew⟩
  · have hpos := hlt0.2 hne
    have hposb := decide_eq_true hpos
    have hposn : 0 < reads.length := by omega
    have hposm := decide_eq_true hposn
    by_cases hlate : read < m.floor
    · rw [if_pos ⟨hne, hlate⟩] at hR
      subst hR
      have hlb := decide_eq_true hlate
      clear hlt0 hne
      refine wp_region_planB [(true, 0), (true, 1), (true, 2), (true, 3), (true, 4), (true, 5), (true, 6), (true, 7), (true, 8), (true, 9), (true, 10), (true, 11), (true, 12)] (by kernel_rfl) (by kernel_rfl) (fun _ _ d _ _ h => by cases d <;> exact h) ?_
      repeat (first | (refine PlanB.take (v := ?_) rfl rfl ?_ ?_; rotate_left; (focus (intro W hW; have k0 := X0.out W (hd0.trans hW); have k1 := X1.out W (hd0.trans hW); have k2 := X2.out W (hd0.trans hW); go_simp; (try with_reducible rfl); done)); (try simp only [Act.put, List.setIfInBounds_toArray, List.set_cons_zero, List.set_cons_succ])) | (refine PlanB.skip rfl rfl ?_; (try simp only [Act.put, List.setIfInBounds_toArray, List.set_cons_zero, List.set_cons_succ])))
      simp only [PlanB]
      go_wp2_with fail
      go_ret
      exact ⟨rfl, HB0.out.drew⟩
    · rw [if_neg (fun h => hlate h.2)] at hR
      have hlb := decide_eq_false hlate
      have HCL := Lib.hid hR
      clear hlt0 hne hR
      refine wp_region_planB [(true, 0), (true, 1), (true, 2), (true, 3), (true, 4), (true, 5), (true, 6), (true, 7), (true, 8), (true, 9), (true, 10), (true, 11), (true, 12)] (by kernel_rfl) (by kernel_rfl) (fun _ _ d _ _ h => by cases d <;> exact h) ?_
      repeat (first | (refine PlanB.take (v := ?_) rfl rfl ?_ ?_; rotate_left; (focus (intro W hW; have k0 := X0.out W (hd0.trans hW); have k1 := X1.out W (hd0.trans hW); have k2 := X2.out W (hd0.trans hW); go_simp; (try with_reducible rfl); done)); (try simp only [Act.put, List.setIfInBounds_toArray, List.set_cons_zero, List.set_cons_succ])) | (refine PlanB.skip rfl rfl ?_; (try simp only [Act.put, List.setIfInBounds_toArray, List.set_cons_zero, List.set_cons_succ])))
      simp only [PlanB]
      have k1 := X1.out _ hd0
      go_wp2_with fail
      clear k1
      go_loopw [25] (fun iv wr => ∃ i : Nat, i ≤ reads.length ∧ iv = .int .i64 (i : Int) ∧ (∀ s ∈ reads.take i, ¬ ∃ k, has s k ∧ m.floor < m.f k ∧ read < m.f k) ∧ Below w0.heap.size w0 wr) (fun iv _ => reads.length - (intOf iv).toNat)
      case atStart => exact ⟨0, Nat.zero_le _, rfl, by simp, hd0⟩
      case round =>
        obtain ⟨i, hil, rfl, hno, hbw⟩ := hrel
        have HNO := Lib.hid hno
        have HBW := Lib.hid hbw
        have k1 := X1.out wr hbw
        have k0 := X0.out wr hbw
        by_cases hlt : i < reads.length
        · obtain ⟨b, o, rfl, hbB, g0, g1⟩ := HI.out i hlt
          have hbB0 : b < w0.heap.size := by have := HZ0.out; omega
          rw [← hbw.cell (p := ⟨b, o + i * 2, none⟩) hbB0] at g0
          rw [← hbw.cell (p := ⟨b, o + i * 2 + 1, none⟩) hbB0] at g1
          have hmem := List.getElem_mem hlt
          have hnext : (¬ ∃ k, has reads[i] k ∧ m.floor < m.f k ∧ read < m.f k) → ∀ s ∈ reads.take (i + 1), ¬ ∃ k, has s k ∧ m.floor < m.f k ∧ read < m.f k := fun h s hs => by
            rw [List.take_add_one, List.getElem?_eq_getElem hlt, List.mem_append] at hs
            rcases hs with hs | hs
            · exact HNO.out s hs
            · simp only [Option.toList_some, List.mem_singleton] at hs; rw [hs]; exact h
          have hyes : (∃ k, has reads[i] k ∧ m.floor < m.f k ∧ read < m.f k) → R = 2 := fun h => by
            rw [HCL.out, if_pos ⟨_, hmem, h⟩]
          have hcon := fun W (hW : Below wr.heap.size wr W) => plast_any r m L reads[i] W (HR0.out.next (hbw.trans (hW.mono hbw.size))) hrep hok (by omega)
          generalize reads[i] = x at g0 g1 hnext hyes hcon
          obtain ⟨xf, xt⟩ := x
          simp only at g0 g1 hcon
          have HNEXT := Lib.hid hnext
          have HYES := Lib.hid hyes
          have HCON := Lib.hid hcon
          have h0 : (0 : Int) ≤ (i : Int) := by omega
          have h1 : (i : Int) < (reads.length : Int) := by omega
          have h2 : IntKind.i64.wrap ((i : Int) + 1) = ((i + 1 : Nat) : Int) := by rw [IntKind.wrap_i64]; omega
          clear hnext hyes hcon hno hmem
          go_wp2_with fail
          refine (HCON.out _ ((Below.refl _ _).alloc (Nat.le_refl _) _)).mono ?_
          rintro e w2 ⟨n, rfl, hlast, hb2'⟩
          have hb2 : Below wr.heap.size wr w2 := ((Below.refl _ wr).alloc (Nat.le_refl _) _).trans (hb2'.mono (by simp))
          clear hb2'
          have hLI := hlast
          have hiff := LastIs.clash hok hLI read hrd0
          have hbw2 : Below w0.heap.size w0 w2 := hbw.trans (hb2.mono hbw.size)
          have k0' := X0.out w2 hbw2
          have HBW2 := Lib.hid hbw2
          have HIFF := Lib.hid hiff
          have HFB := Lib.hid (HB0.out.trans (hbw2.mono (by have := HZ0.out; omega)))
          clear hlast hLI hiff hbw2 hb2 hbw k0 k1 g0 g1
          by_cases hn0 : 0 < n
          · have hnb := decide_eq_true hn0
            by_cases hnr : read < n
            · have hnrb := decide_eq_true hnr
              have hR2 := HYES.out (HIFF.out.2 hnr)
              go_wp2_with fail
              go_ret
              exact ⟨by rw [hR2]; rfl, HFB.out⟩
            · have hnrb := decide_eq_false hnr
              have HN2 := Lib.hid (HNEXT.out (fun h => hnr (HIFF.out.1 h)))
              go_wp2_with fail
              go_roundw
              case rel => exact ⟨i + 1, by omega, rfl, HN2.out, HBW2.out⟩
              case measure => simp [intOf]; omega
          · have hnb := decide_eq_false hn0
            have HN2 := Lib.hid (HNEXT.out (fun h => by have := HIFF.out.1 h; omega))
            go_wp2_with fail
            go_roundw
            case rel => exact ⟨i + 1, by omega, rfl, HN2.out, HBW2.out⟩
            case measure => simp [intOf]; omega
        · obtain rfl : i = reads.length := by omega
          have hR1 : R = 1 := by
            rw [List.take_length] at hno
            rw [HCL.out, if_neg]
            rintro ⟨s, hs, hk⟩
            exact hno s hs hk
          have HFB := Lib.hid (HB0.out.trans (hbw.mono (by have := HZ0.out; omega)))
          clear hno hbw
          go_wp2_with fail
          go_ret
          exact ⟨by rw [hR1]; rfl, HFB.out⟩

open Classical in
/-- the keys of spans written at a version -/
noncomputable def noteF (R : List (K × K)) (v : Int) (f : K → Int) (k : K) : Int := if mem R k then v else f k
theorem noteF_nil (v : Int) (f : K → Int) : noteF [] v f = f := by
  funext k; unfold noteF; rw [if_neg (mem_nil k)]
theorem noteF_snoc (R : List (K × K)) (s : K × K) (v : Int) (f : K → Int) : (fun k => if has s k then v else noteF R v f k) = noteF (R ++ [s]) v f := by
  funext k
  unfold noteF
  have e : mem (R ++ [s]) k ↔ mem R k ∨ has s k := by rw [mem_append, mem_cons]; simp [mem_nil]
  by_cases h1 : has s k
  · rw [if_pos h1, if_pos (e.2 (.inr h1))]
  · by_cases h2 : mem R k
    · rw [if_neg h1, if_pos h2, if_pos (e.2 (.inl h2))]
    · rw [if_neg h1, if_neg h2, if_neg (fun h => (e.1 h).elim h2 h1)]

set_option maxHeartbeats 8000000 in
set_option maxRecDepth 100000 in
theorem note_any (base q : Nat) (ov : Option Nat) (m : Mk) (L : List Wr) (v : Int) (cs : List Chg) (vv : Value) (w : World) (h : PmL w base q ov m.floor L) (hrep : Rep m.f m.floor L) (hv : m.floor < v) (hsm : ∀ c ∈ cs, smallC c) (ha : allAns cs = 0) (hn : cs.length ≤ 24) (hr : RdC w w.heap.size vv cs) (hl : L.length ≤ 50000) :
    Calls Tryz.prog 25 #[.pointer (some ⟨q, 0, none⟩), .int .i64 v, vv] w fun e w' => e = .returned (.tuple #[]) ∧ ∃ ov' L' R, PmW w w' base q ov m.floor L' ov' ∧ Fits R (fun k => mem (cs.map cspan) k) ∧ Rep (noteF R v m.f) m.floor L' ∧ L'.length ≤ L.length + 48 := by
  have hsp := pspans_any cs hsm vv w hr (by omega)
  rw [ha] at hsp
  have HSP := Lib.hid hsp; clear hsp
  have H := Lib.hid h
  have HREP := Lib.hid hrep; clear hrep
  have hqs := h.size
  have HROW := Lib.hid (show ∀ g, ov = some g → g < w.heap.size from fun g hg => (h.row hg).2)
  obtain ⟨A0, c0, rfl, -, -⟩ := hr.at
  clear h hsm ha hr
  go_enter Tryz.func25, Tryz.ntmps25
  go_wp2_with fail
  refine HSP.out.mono ?_
  rintro e w1 ⟨v', qe, rfl, hb1, hsi⟩
  have hR : qe = 0 ∧ ∃ R, OwnS w1 w.heap.size v' R ∧ Fits R (fun k => mem (cs.map cspan) k) := by
    rcases hsi with ⟨h1, h2, _⟩ | ⟨_, h2, R, h3, h4, _⟩
    · exact absurd h1 (by omega)
    · exact ⟨h2, R, h3, h4⟩
  obtain ⟨rfl, R, ho1, hf1⟩ := hR
  have hRl : R.length ≤ 24 := by
    have := fits_len hf1
    rw [List.length_map] at this
    omega
  have hp1 : PmL w1 base q ov m.floor L := H.out.new hb1
  have HP1 := Lib.hid hp1
  have HB1 := Lib.hid hb1
  have HO1 := Lib.hid ho1
  have HF1 := Lib.hid hf1
  have hz1 : w.heap.size ≤ w1.heap.size := hb1.size
  obtain ⟨A1, c1, hv1, hcel⟩ := ho1.read
  subst hv1
  have hst : ∀ W, Mv (PmD q ov) w1 W → ∀ i (_ : i < R.length), ∃ g, A1 = some ⟨g, 0, none⟩ ∧ W.cell? ⟨g, i * 2, none⟩ = some (.string R[i].1) ∧ W.cell? ⟨g, i * 2 + 1, none⟩ = some (.string R[i].2) := fun W hW i hi => by
    obtain ⟨g, e, h1, h2, h3, h4⟩ := hcel i hi
    have hb : W.heap[g]? = w1.heap[g]? := hW.block g h2 (fun hd => by
      rcases hd with h5 | h5
      · omega
      · have := HROW.out g h5.symm; omega)
    refine ⟨g, e, ?_, ?_⟩
    · rw [← h3]; unfold World.cell?; rw [hb]
    · rw [← h4]; unfold World.cell?; rw [hb]
  have HST := Lib.hid hst
  have HNE := Lib.hid (show ∀ s ∈ R, s.1 < s.2 from hf1.1.ne)
  clear hst hcel ho1 hf1 hp1 hb1 hsi
  go_wp2_with fail
  go_loopw [17] (fun iv wr => ∃ (i : Nat) (ovi : Option Nat) (Li : List Wr), i ≤ R.length ∧ iv = .int .i64 (i : Int) ∧ Hid (PmW w1 wr base q ov m.floor Li ovi) ∧ Hid (Rep (noteF (R.take i) v m.f) m.floor Li) ∧ Li.length ≤ L.length + 2 * i) (fun iv _ => R.length - (intOf iv).toNat)
  case atStart => exact ⟨0, ov, L, Nat.zero_le _, rfl, Lib.hid (PmW.refl HP1.out), Lib.hid (by rw [List.take_zero, noteF_nil]; exact HREP.out), by omega⟩
  case round =>
    obtain ⟨i, ovi, Li, hil, rfl, HPW, HRP, hLi⟩ := hrel
    by_cases hlt : i < R.length
    · obtain ⟨g, rfl, k0, k1⟩ := HST.out wr HPW.out.moved i hlt
      have hne := HNE.out R[i] (List.getElem_mem hlt)
      have htk : R.take (i + 1) = R.take i ++ [R[i]] := by rw [List.take_add_one, List.getElem?_eq_getElem hlt]; rfl
      have hsn := noteF_snoc (R.take i) R[i] v m.f
      rw [← htk] at hsn
      clear htk
      generalize R[i] = u at k0 k1 hne hsn
      obtain ⟨u1, u2⟩ := u
      simp only at k0 k1 hne
      have hwr := write_any base q ovi m.floor Li (noteF (R.take i) v m.f) m.floor (u1, u2) v (wr.alloc (.cells #[.string u1, .string u2] 52)) (HPW.out.now.new ((Below.refl _ _).alloc (Nat.le_refl _) _)) HRP.out hne hv (by omega)
      rw [hsn] at hwr
      have HWR := Lib.hid hwr
      have HPA := Lib.hid (HPW.out.after (w2 := wr.alloc (.cells #[.string u1, .string u2] 52)) ((Below.refl _ _).alloc (Nat.le_refl _) _))
      have HSN := Lib.hid hsn
      clear hwr hsn hne
      go_wp2_with fail
      refine HWR.out.mono ?_
      rintro e w3 ⟨rfl, ov3, L3, hp3, hr3⟩
      have hl3 := write_len HRP.out (by rw [HSN.out]; exact hr3)
      have HP3 := Lib.hid (HPA.out.trans hp3)
      have HR3 := Lib.hid hr3
      clear hp3 hr3 k0 k1
      go_wp2_with fail
      go_roundw
      case rel => exact ⟨i + 1, ov3, L3, by omega, by go_num, HP3, HR3, by omega⟩
      case measure => simp [intOf]; omega
    · obtain rfl : i = R.length := by omega
      have hrp := HRP.out
      rw [List.take_length] at hrp
      have HRP2 := Lib.hid hrp
      have HPF := Lib.hid (((PmW.refl H.out).after HB1.out).trans HPW.out)
      clear hrp
      go_wp2_with fail
      go_end0
      exact ⟨rfl, ovi, Li, R, HPF.out, HF1.out, HRP2.out, by omega⟩

set_option maxHeartbeats 4000000 in
set_option maxRecDepth 100000 in
theorem psound_any (ts : List TxV) (G : Nat → Prop) (vv : Value) (w : World) (hr : RdTx w w.heap.size G vv ts) (hf : ∀ x ∈ ts, fitT x.t) (hi : ∀ x ∈ ts, I64 x.t.read) :
    Calls Tryz.prog 23 #[vv] w fun e w' => e = .returned (.bool (decide (ts.length ≤ 4 ∧ ∀ x ∈ ts, soundT x.t))) ∧ Below w.heap.size w w' := by
  obtain ⟨D, hD⟩ : ∃ D, D = decide (ts.length ≤ 4 ∧ ∀ x ∈ ts, soundT x.t) := ⟨_, rfl⟩
  rw [← hD]
  have HD := Lib.hid hD; clear hD
  obtain ⟨A, c, rfl, hc, hcel⟩ := hr.at
  have HCE := Lib.hid hcel; clear hcel
  have HPA := Lib.hid hr.parts; clear hr
  have HFI := Lib.hid hf; clear hf
  have HII := Lib.hid hi; clear hi
  by_cases hbig : (4 : Int) < (ts.length : Int)
  · have hd : D = false := by rw [HD.out]; exact decide_eq_false fun h => by have := h.1; omega
    subst hd
    clear HD
    go_enter Tryz.func23, Tryz.ntmps23
    go_wp2_with fail
    go_ret
    exact ⟨rfl, Below.refl _ _⟩
  go_enter Tryz.func23, Tryz.ntmps23
  go_wp2_with fail
  go_loopw [12] (fun iv wr => ∃ i : Nat, i ≤ ts.length ∧ iv = .int .i64 (i : Int) ∧ Hid (∀ x ∈ ts.take i, soundT x.t) ∧ Hid (Below w.heap.size w wr)) (fun iv _ => ts.length - (intOf iv).toNat)
  case atStart => exact ⟨0, Nat.zero_le _, rfl, Lib.hid (by simp), Lib.hid (Below.refl _ _)⟩
  case round =>
    obtain ⟨i, hil, rfl, HALL, HB⟩ := hrel
    by_cases hlt : i < ts.length
    · obtain ⟨b, o, rfl, hbB, _, k0, k1, k2⟩ := HCE.out i hlt
      rw [← HB.out.cell (p := ⟨b, _, none⟩) hbB] at k0
      rw [← HB.out.cell (p := ⟨b, _, none⟩) hbB] at k1
      rw [← HB.out.cell (p := ⟨b, _, none⟩) hbB] at k2
      have hmem := List.getElem_mem hlt
      have hp := HPA.out _ hmem
      have hft := HFI.out _ hmem
      have hii := HII.out _ hmem
      have hyes : soundT ts[i].t → ∀ x ∈ ts.take (i + 1), soundT x.t := fun h x hx => by
        rw [List.take_add_one, List.getElem?_eq_getElem hlt, List.mem_append] at hx
        rcases hx with hx | hx
        · exact HALL.out x hx
        · simp only [Option.toList_some, List.mem_singleton] at hx; rw [hx]; exact h
      have hno : ¬ soundT ts[i].t → D = false := fun h => by rw [HD.out]; exact decide_eq_false fun h2 => h (h2.2 _ hmem)
      have hbw : ∀ W, Below wr.heap.size wr W → Below w.heap.size w W := fun W hW => HB.out.trans (hW.mono HB.out.size)
      have hok := fun (hs : soundT ts[i].t) W (hW : Below wr.heap.size wr W) => pputT_ok ts[i].t hs hii.2 hft ts[i].v1 ts[i].v2 W ((hp.1.rd.below (hbw W hW) (Nat.le_refl _)).mono (hbw W hW).size) ((hp.2.rd.below (hbw W hW) (Nat.le_refl _)).mono (hbw W hW).size)
      have hbad := fun (hs : ¬ soundT ts[i].t) W (hW : Below wr.heap.size wr W) => pputT_bad ts[i].t hs hii.2 hft ts[i].v1 ts[i].v2 W ((hp.1.rd.below (hbw W hW) (Nat.le_refl _)).mono (hbw W hW).size) ((hp.2.rd.below (hbw W hW) (Nat.le_refl _)).mono (hbw W hW).size)
      have hs1 : ∃ A1 c1, ts[i].v1 = .slice A1 ts[i].t.reads.length c1 := by obtain ⟨A1, c1, e, _⟩ := hp.1.rd; exact ⟨A1, c1, e⟩
      have hs2 : ∃ A2 c2, ts[i].v2 = .slice A2 ts[i].t.chgs.length c2 := by obtain ⟨A2, c2, e, _⟩ := hp.2.rd; exact ⟨A2, c2, e⟩
      clear hp hft hii hmem
      generalize ts[i] = x at k0 k1 k2 hyes hno hok hbad hs1 hs2
      obtain ⟨t, v1, v2⟩ := x
      unfold tval at hok hbad
      simp only at k0 k1 k2 hyes hno hok hbad hs1 hs2
      obtain ⟨A1, c1, rfl⟩ := hs1
      obtain ⟨A2, c2, rfl⟩ := hs2
      have HYES := Lib.hid hyes
      have HNO := Lib.hid hno
      have HOK := Lib.hid hok
      have HBAD := Lib.hid hbad
      have HBW := Lib.hid hbw
      have hb0 : Below wr.heap.size wr (wr.alloc (.cells #[.int .i64 t.read, .slice A1 t.reads.length c1, .slice A2 t.chgs.length c2] 47)) := (Below.refl _ _).alloc (Nat.le_refl _) _
      have HB0 := Lib.hid hb0
      clear hyes hno hok hbad hbw hb0
      by_cases hs : soundT t
      · have HC := Lib.hid (HOK.out hs _ HB0.out)
        go_wp2_with fail
        refine HC.out.mono ?_
        rintro e w2 ⟨v', rfl, -, hb2⟩
        have HB2 := Lib.hid (HBW.out _ (HB0.out.trans (hb2.mono HB0.out.size)))
        have HAL2 := Lib.hid (HYES.out hs)
        clear hb2 k0 k1 k2
        go_wp2_with fail
        go_roundw
        case rel => exact ⟨i + 1, by omega, by go_num, HAL2, HB2⟩
        case measure => simp [intOf]; omega
      · have HC := Lib.hid (HBAD.out hs _ HB0.out)
        go_wp2_with fail
        refine HC.out.mono ?_
        rintro e w2 ⟨rfl, hb2⟩
        have HB2 := Lib.hid (HBW.out _ (HB0.out.trans (hb2.mono HB0.out.size)))
        have HD2 := Lib.hid (HNO.out hs)
        clear hb2 k0 k1 k2
        go_wp2_with fail
        go_ret
        exact ⟨by rw [HD2.out]; rfl, HB2.out⟩
    · have hd : D = true := by
        rw [HD.out]
        have h1 := HALL.out
        rw [List.take_of_length_le (by omega)] at h1
        exact decide_eq_true ⟨by omega, h1⟩
      have HD2 := Lib.hid hd; clear hd
      go_wp2_with fail
      go_ret
      exact ⟨by rw [HD2.out]; rfl, HB.out⟩
end Go.Proofs.YtgppgecglkellaaGreat
namespace Go.Proofs.YtgppgecglkellaaGreat
open Go.RowKit

theorem MkAt.wide {w : World} {base q n n' : Nat} {G : Nat → Prop} {m : Mk} (h : MkAt w base q G n m) (hn : n ≤ n') (hn2 : n' ≤ 64) : MkAt w base q G n' m := by
  obtain ⟨ov, L, h1, h2, h3, h4, h5, h6, h7⟩ := h
  exact ⟨ov, L, h1, h2, h3, h4, by omega, h6, hn2⟩
theorem PmW.grow {w w' w2 : World} {base q : Nat} {ov ov' : Option Nat} {floor : Int} {L : List Wr} {α : Type} {enc : α → List Value} {k : Nat} {e : TypeId} {v : Value} {l : List α} (h : PmW w w' base q ov floor L ov') (ho : Own enc k e w' w.heap.size v l) (h1 : e ≠ 70) (h2 : e ≠ 77) (hg : w'.grownBy w2 v.ownBlock) : PmW w w2 base q ov floor L ov' :=
  ⟨h.now.grown ho h1 h2 hg, h.moved.trans (Mv.of_grown hg) (fun i hi e => by have := (ho.low e.symm).1; omega), h.new⟩
theorem wrote_note {M : Mk} {t : Txn} {v : Int} {R : List (K × K)} (hf : Fits R (fun k => mem (t.chgs.map cspan) k)) : (wrote M v t).f = noteF R v M.f := by
  funext k
  unfold wrote noteF
  simp only
  by_cases h : keysOf t k
  · rw [if_pos h, if_pos ((hf.2 k).2 h)]
  · rw [if_neg h, if_neg (fun h2 => h ((hf.2 k).1 h2))]
theorem Top.wrote {M : Mk} (h : Top M) (v : Int) (t : Txn) : Top (wrote M v t) := by
  by_cases he : ∃ k, keysOf t k
  · obtain ⟨k, hk⟩ := id he
    right
    refine ⟨k, ?_⟩
    unfold Go.Proofs.YtgppgecglkellaaGreat.wrote
    simp only
    rw [if_pos hk, if_pos he]
  · have e1 : (Go.Proofs.YtgppgecglkellaaGreat.wrote M v t).most = M.most := by unfold Go.Proofs.YtgppgecglkellaaGreat.wrote; simp only; rw [if_neg he]
    rcases h with h | ⟨k, hk⟩
    · left; rw [e1]; exact h
    · right
      refine ⟨k, ?_⟩
      rw [e1, ← hk]
      unfold Go.Proofs.YtgppgecglkellaaGreat.wrote
      simp only
      rw [if_neg (fun hk2 => he ⟨k, hk2⟩)]
theorem take_mapM {α β : Type} (f : α → β) (l : List α) (i : Nat) (h : i < l.length) : (l.map f).take (i + 1) = (l.map f).take i ++ [f l[i]] := by
  rw [List.take_add_one, List.getElem?_map, List.getElem?_eq_getElem h]
  rfl

set_option maxHeartbeats 16000000 in
set_option maxRecDepth 100000 in
theorem mkjudge_any (base q n : Nat) (G : Nat → Prop) (m : Mk) (v : Int) (hv : I64 v) (ts : List TxV) (vv : Value) (w : World) (h : MkAt w base q G n m) (hr : RdTx w w.heap.size G vv ts) (hf : ∀ x ∈ ts, fitT x.t) (hi : ∀ x ∈ ts, I64 x.t.read) (hn : n ≤ 60) :
    Calls Tryz.prog 17 #[.pointer (some ⟨q, 0, none⟩), .int .i64 v, vv] w fun e w' => ∃ A cap, e = .returned (.tuple #[.slice A (jout m v (ts.map (·.t))).length cap, .int .i64 (jerr m v (ts.map (·.t)))]) ∧
      ∃ G', MkAt w' base q G' (n + 4) (jnext m v (ts.map (·.t))) ∧ (∀ i, G' i → G i ∨ w.heap.size ≤ i) ∧ Mv G w w' ∧ RdG encI 1 w' w'.heap.size (fun i => G' i ∨ Else w G i) (.slice A (jout m v (ts.map (·.t))).length cap) (jout m v (ts.map (·.t))) := by
  obtain ⟨E, hE⟩ : ∃ E, E = jerr m v (ts.map (·.t)) := ⟨_, rfl⟩
  obtain ⟨O, hO⟩ : ∃ O, O = jout m v (ts.map (·.t)) := ⟨_, rfl⟩
  obtain ⟨N, hN⟩ : ∃ N, N = jnext m v (ts.map (·.t)) := ⟨_, rfl⟩
  rw [← hE, ← hO, ← hN]
  unfold jout at hO
  unfold jnext at hN
  rw [← hE] at hO hN
  have hbad : ∀ c : Int, c ≠ 0 → E = c → O = [] ∧ N = m := fun c hc he => by
    rw [if_neg (by omega)] at hO hN
    exact ⟨hO, hN⟩
  have HBAD := Lib.hid hbad; clear hbad
  have HMK := Lib.hid h
  have hstay : ∀ w', Below w.heap.size w w' → ∃ G', MkAt w' base q G' (n + 4) m ∧ (∀ i, G' i → G i ∨ w.heap.size ≤ i) ∧ Mv G w w' ∧ RdG encI 1 w' w'.heap.size (fun i => G' i ∨ Else w G i) (.slice none 0 0) [] := fun w' hb =>
    ⟨G, (h.mv (Mv.of_below hb) (fun i hi => by have := h.low.2 i hi; omega)).wide (by omega) (by omega), fun i hi => .inl hi, Mv.of_new hb _, RdG.none_ _ _ _ _ _⟩
  have HSTAY := Lib.hid hstay; clear hstay
  obtain ⟨ov, L, h1, rfl, h2, h3, h4, h5, h6⟩ := h
  have hnew := newest_any q m.floor L w h1.rd (by omega)
  have hiff := h2.newest h5 h3 v
  have hsnd := fun W (hb : Below w.heap.size w W) => psound_any ts (PmD q ov) vv W ((hr.mv (Mv.of_below hb) (Nat.le_refl _) (fun b h1 h2 => by omega)).mono hb.size (fun _ _ h => h)) hf hi
  obtain ⟨A0, c0, hvv, hc0, hcel⟩ := hr.at
  subst hvv
  have HNEW := Lib.hid hnew; clear hnew
  have HSND := Lib.hid hsnd; clear hsnd
  have HCE := Lib.hid hcel; clear hcel
  have HPA := Lib.hid hr.parts; clear hr
  have HFI := Lib.hid hf; clear hf
  have H1 := Lib.hid h1
  have H2 := Lib.hid h2; clear h2
  have H3 := Lib.hid h3; clear h3
  have H5 := Lib.hid h5; clear h5
  have hqs := h1.size
  have HROW := Lib.hid (show ∀ g, ov = some g → g < w.heap.size from fun g hg => (h1.row hg).2)
  clear h1 hi
  unfold jerr at hE
  by_cases hlow : v ≤ newestL m.floor L
  · rw [if_pos (hiff.1 hlow)] at hE
    obtain ⟨e1, e2⟩ := HBAD.out 9 (by omega) hE
    clear hO hN hiff
    subst hE e1 e2
    go_enter Tryz.func17, Tryz.ntmps17
    go_wp2_with fail
    refine HNEW.out.mono ?_
    rintro e w1 ⟨rfl, hb1⟩
    have HS := Lib.hid (HSTAY.out w1 hb1); clear hb1
    go_wp2_with fail
    go_ret2
    exact ⟨_, _, rfl, HS.out⟩
  rw [if_neg (fun h => hlow (hiff.2 h))] at hE
  have hfv : m.floor < v ∧ m.most < v := by
    have h1 : ¬ (v ≤ m.floor ∨ v ≤ m.most) := fun h => hlow (hiff.2 h)
    omega
  clear hiff
  by_cases hso : ¬ (ts.length ≤ 4 ∧ ∀ x ∈ ts, soundT x.t)
  · have he : E = 2 := by
      rw [hE, if_pos]
      rw [List.length_map]
      by_cases hl : ts.length ≤ 4
      · right
        by_cases hall : ∀ x ∈ ts, soundT x.t
        · exact absurd ⟨hl, hall⟩ hso
        · simp only [Classical.not_forall] at hall
          obtain ⟨x, hx, hns⟩ := hall
          exact ⟨x.t, List.mem_map.2 ⟨x, hx, rfl⟩, hns⟩
      · left; omega
    obtain ⟨e1, e2⟩ := HBAD.out 2 (by omega) he
    clear hO hN hE
    subst he e1 e2
    rw [decide_eq_false hso] at HSND
    clear hso
    go_enter Tryz.func17, Tryz.ntmps17
    go_wp2_with fail
    refine HNEW.out.mono ?_
    rintro e w1 ⟨rfl, hb1⟩
    have HB1 := Lib.hid hb1; clear hb1
    go_wp2_with fail
    refine (HSND.out w1 HB1.out).mono ?_
    rintro e w2 ⟨rfl, hb2⟩
    have HS := Lib.hid (HSTAY.out w2 (HB1.out.trans (hb2.mono HB1.out.size))); clear hb2
    go_wp2_with fail
    go_ret2
    exact ⟨_, _, rfl, HS.out⟩
  rw [Classical.not_not] at hso
  have he : E = 0 := by
    rw [hE, if_neg]
    rw [List.length_map]
    rintro (h1 | ⟨t, ht, hns⟩)
    · omega
    · obtain ⟨x, hx, rfl⟩ := List.mem_map.1 ht
      exact hns (hso.2 x hx)
  rw [if_pos he] at hO hN
  clear hE
  subst he
  rw [decide_eq_true hso] at HSND
  have HSO := Lib.hid hso.2
  have hlen4 := hso.1
  have HO := Lib.hid hO
  have HN := Lib.hid hN
  clear hso hO hN HBAD HSTAY HMK
  go_enter Tryz.func17, Tryz.ntmps17
  go_wp2_with fail
  refine HNEW.out.mono ?_
  rintro e w1 ⟨rfl, hb1⟩
  have HB1 := Lib.hid hb1; clear hb1
  go_wp2_with fail
  refine (HSND.out w1 HB1.out).mono ?_
  rintro e w2 ⟨rfl, hb2⟩
  have HPW2 := Lib.hid ((PmW.refl H1.out).after (HB1.out.trans (hb2.mono HB1.out.size)))
  clear hb2 HSND HNEW HB1 hlow
  go_wp2_with fail
  go_loopw [8, 26] (fun sv iv wr => ∃ (i : Nat) (A' : Option Addr) (c' : Nat) (ovi : Option Nat) (Li : List Wr), i ≤ ts.length ∧ iv = .int .i64 (i : Int) ∧ sv = .slice A' i c' ∧ Hid (OwnI wr w.heap.size (.slice A' i c') (judgeL m v ((ts.map (·.t)).take i))) ∧ Hid (PmW w wr base q ov m.floor Li ovi) ∧ Hid (Rep (judgeM m v ((ts.map (·.t)).take i)).f m.floor Li ∧ Top (judgeM m v ((ts.map (·.t)).take i))) ∧ Li.length ≤ L.length + 48 * i) (fun _ iv _ => ts.length - (intOf iv).toNat)
  case atStart => exact ⟨0, none, 0, ov, L, Nat.zero_le _, rfl, rfl, Lib.hid (Own.nil _ _), HPW2, Lib.hid ⟨H2.out, H3.out⟩, by omega⟩
  case round =>
    obtain ⟨i, A', c', ovi, Li, hil, rfl, rfl, HOI, HPW, HRT, hLi⟩ := hrel
    clear HPW2
    by_cases hlt : i < ts.length
    · obtain ⟨b, o, rfl, hbB, hbG, k0, k1, k2⟩ := HCE.out i hlt
      have hcw : ∀ j, wr.cell? ⟨b, j, none⟩ = w.cell? ⟨b, j, none⟩ := fun j => by unfold World.cell?; rw [HPW.out.moved.block b hbB hbG]
      rw [← hcw] at k0 k1 k2
      have hmem := List.getElem_mem hlt
      have hp := HPA.out _ hmem
      have hft := HFI.out _ hmem
      have hst := HSO.out _ hmem
      have hsn := judge_snoc ((ts.map (·.t)).take i) m v ts[i].t
      rw [← take_mapM (fun x : TxV => x.t) ts i hlt] at hsn
      obtain ⟨hok', hmost', hfloor'⟩ := Mk.Ok.judgeM ((ts.map (·.t)).take i) H5.out (v := v) (by omega) hv.2
      obtain ⟨M', hM'⟩ : ∃ M', judgeM m v ((ts.map (·.t)).take i) = M' := ⟨_, rfl⟩
      obtain ⟨J', hJ'⟩ : ∃ J', judgeL m v ((ts.map (·.t)).take i) = J' := ⟨_, rfl⟩
      have hJl : J'.length = i := by rw [← hJ', judgeL_len, List.length_take, List.length_map]; omega
      rw [hM', hJ'] at hsn
      rw [hM'] at hok' hmost' hfloor' HRT
      rw [hJ'] at HOI
      rw [← hfloor'] at HRT
      have hpm : ∀ W, Below wr.heap.size wr W → PmL W base q ovi M'.floor Li := fun W hW => by rw [hfloor']; exact HPW.out.now.new hW
      have hrd1 : ∀ W, Below wr.heap.size wr W → RdP W W.heap.size ts[i].v1 ts[i].t.reads := fun W hW => by
        have hm : Mv (PmD q ov) w W := (HPW.out.after hW).moved
        exact (hp.1.mv hm (Nat.le_refl _) (fun _ _ h => h)).rd.mono hm.size
      have hrd2 : ∀ W, Below wr.heap.size wr W → RdC W W.heap.size ts[i].v2 ts[i].t.chgs := fun W hW => by
        have hm : Mv (PmD q ov) w W := (HPW.out.after hW).moved
        exact (hp.2.mv hm (Nat.le_refl _) (fun _ _ h => h)).rd.mono hm.size
      have hver := fun W (hW : Below wr.heap.size wr W) => pverdict_any q Li M' HRT.out.1 hok' (by omega) ts[i].t hst ts[i].v1 ts[i].v2 W (hpm W hW).rd (hrd1 W hW)
      have hnote := fun W (hW : Below wr.heap.size wr W) => note_any base q ovi M' Li v ts[i].t.chgs ts[i].v2 W (hpm W hW) HRT.out.1 (by rw [hfloor']; omega) hft.2.2.2 hst.2.2.2.2 hst.2.2.2.1 (hrd2 W hW) (by omega)
      have hs1 : ∃ A1 c1, ts[i].v1 = .slice A1 ts[i].t.reads.length c1 := by obtain ⟨A1, c1, e, _⟩ := hp.1.rd; exact ⟨A1, c1, e⟩
      have hs2 : ∃ A2 c2, ts[i].v2 = .slice A2 ts[i].t.chgs.length c2 := by obtain ⟨A2, c2, e, _⟩ := hp.2.rd; exact ⟨A2, c2, e⟩
      clear hp hft hst hmem hrd1 hrd2 hpm hcw
      generalize ts[i] = x at k0 k1 k2 hsn hver hnote hs1 hs2
      obtain ⟨t, v1, v2⟩ := x
      unfold tval at hver
      simp only at k0 k1 k2 hsn hver hnote hs1 hs2
      obtain ⟨A1, c1, rfl⟩ := hs1
      obtain ⟨A2, c2, rfl⟩ := hs2
      have HVER := Lib.hid hver; clear hver
      have HNOTE := Lib.hid hnote; clear hnote
      have HSN := Lib.hid hsn; clear hsn
      have HJL := Lib.hid hJl; clear hJl hJ' hM'
      have HFL := Lib.hid hfloor'; clear hfloor'
      obtain ⟨w3, hw3⟩ : ∃ w3, wr.alloc (.cells #[.int .i64 t.read, .slice A1 t.reads.length c1, .slice A2 t.chgs.length c2] 47) = w3 := ⟨_, rfl⟩
      have hb3 : Below wr.heap.size wr w3 := by rw [← hw3]; exact (Below.refl _ _).alloc (Nat.le_refl _) _
      have hx3 : Whole w3 wr.heap.size 47 [.int .i64 t.read, .slice A1 t.reads.length c1, .slice A2 t.chgs.length c2] := by rw [← hw3]; exact Whole.fresh wr _ [_, _, _]
      have y0 := hx3.cell 0 _ rfl
      have y1 := hx3.cell 1 _ rfl
      have y2 := hx3.cell 2 _ rfl
      have HX3 := Lib.hid hx3
      have HB3 := Lib.hid hb3
      clear hb3 hx3
      have hwzr : w.heap.size ≤ wr.heap.size := HPW.out.moved.size
      have hi4 : i < 4 := by omega
      by_cases hv1 : verd M' t = 1
      · rw [hv1] at HVER
        have hj1 : judge1 M' v t = wrote M' v t := by unfold judge1; rw [if_pos hv1]
        have HJ1 := Lib.hid hj1; clear hj1
        go_wp2_with fail
        have HW3 := Lib.hid hw3; clear hw3
        refine (HVER.out _ HB3.out).mono ?_
        rintro e w4 ⟨rfl, hb4⟩
        have hb34 : Below wr.heap.size wr w4 := HB3.out.trans (hb4.mono HB3.out.size)
        have x2 := (HX3.out.below hb4 HX3.out.size).cell 2 _ rfl
        have HB4 := Lib.hid hb34
        clear hb4 hb34 y0 y1 y2 k0 k1 k2
        go_wp2_with fail
        refine (HNOTE.out _ HB4.out).mono ?_
        rintro e w5 ⟨rfl, ov5, L5, R, hp5, hf5, hr5, hl5⟩
        rw [HFL.out] at hp5
        have hoi4 : OwnI w4 w.heap.size (.slice A' i c') J' := HOI.out.below HB4.out (Nat.le_refl _)
        have hp4 : PmW w w4 base q ov m.floor Li ovi := HPW.out.after HB4.out
        have hoi5 : OwnI w5 w.heap.size (.slice A' i c') J' := hp4.now.keeps hoi4 (by decide) (by decide) hp5.moved
        have hp5' : PmW w w5 base q ov m.floor L5 ov5 := hp4.trans hp5
        have hrt5 : Rep (judgeM m v ((ts.map (·.t)).take (i + 1))).f m.floor L5 ∧ Top (judgeM m v ((ts.map (·.t)).take (i + 1))) := by
          rw [HSN.out.2, HJ1.out]
          exact ⟨by rw [wrote_note hf5, ← HFL.out]; exact hr5, HRT.out.2.wrote v t⟩
        have HP5 := Lib.hid (hp5'.after ((Below.refl _ w5).alloc (Nat.le_refl _) (.cells #[.int .i64 1] 3)))
        have HO5 := Lib.hid (hoi5.alloc (.cells #[.int .i64 1] 3))
        have HRT5 := Lib.hid hrt5
        have HRD := Lib.hid (RdI.one w5 1)
        have hz5 : w.heap.size ≤ (w5.alloc (.cells #[.int .i64 1] 3)).heap.size := by have := hp5'.moved.size; simp; omega
        have HZ5 := Lib.hid hz5
        clear hoi4 hp4 hoi5 hp5' hrt5 hp5 hf5 hr5 x2 hz5
        go_wp2_with (at_builtin; go_must (refine wpList_addIm rfl _ _ rfl w.heap.size (.slice A' i c') J' rfl HO5.out (w5.heap.size + 1) (.slice (some ⟨w5.heap.size, 0, none⟩) 1 1) [1] rfl HRD.out (by rw [HJL.out]; simp only [List.length_cons, List.length_nil]; omega) HZ5.out ?_))
        intro A6 c6 w6 ho6 hg6
        have hj6 : judgeL m v ((ts.map (·.t)).take (i + 1)) = J' ++ [1] := by rw [HSN.out.1, hv1]
        have hl6 : (J' ++ [(1 : Int)]).length = i + 1 := by rw [List.length_append, HJL.out]; rfl
        have HP6 := Lib.hid (HP5.out.grow HO5.out (by decide) (by decide) hg6.out)
        have HJ6 := Lib.hid hj6
        have HL6 := Lib.hid hl6
        have ho6' := ho6.out
        clear hj6 hl6 hg6 ho6
        simp only [HJL.out] at ho6'
        have HO6 := Lib.hid ho6'; clear ho6'
        have hJi := HJL.out
        go_wp2_with fail
        go_roundw
        case rel => exact ⟨i + 1, A6, c6, ov5, L5, by omega, by go_num, by rw [hJi], Lib.hid (by rw [HJ6.out]; exact HO6.out), HP6, HRT5, by omega⟩
        case measure => simp [intOf]; omega
      · have hj1 : judge1 M' v t = M' := by unfold judge1; rw [if_neg hv1]
        have HJ1 := Lib.hid hj1; clear hj1
        have HVD := Lib.hid (show judgeL m v ((ts.map (·.t)).take (i + 1)) = J' ++ [verd M' t] from HSN.out.1)
        generalize verd M' t = vd at HVER hv1 HVD
        go_wp2_with fail
        have HW3 := Lib.hid hw3; clear hw3
        refine (HVER.out _ HB3.out).mono ?_
        rintro e w4 ⟨rfl, hb4⟩
        have hb34 : Below wr.heap.size wr w4 := HB3.out.trans (hb4.mono HB3.out.size)
        have hp4 : PmW w w4 base q ov m.floor Li ovi := HPW.out.after hb34
        have hrt5 : Rep (judgeM m v ((ts.map (·.t)).take (i + 1))).f m.floor Li ∧ Top (judgeM m v ((ts.map (·.t)).take (i + 1))) := by
          rw [HSN.out.2, HJ1.out]
          exact ⟨by rw [← HFL.out]; exact HRT.out.1, HRT.out.2⟩
        have HP5 := Lib.hid (hp4.after ((Below.refl _ w4).alloc (Nat.le_refl _) (.cells #[.int .i64 vd] 3)))
        have HO5 := Lib.hid ((HOI.out.below hb34 (Nat.le_refl _)).alloc (.cells #[.int .i64 vd] 3))
        have HRT5 := Lib.hid hrt5
        have HRD := Lib.hid (RdI.one w4 vd)
        have hz5 : w.heap.size ≤ (w4.alloc (.cells #[.int .i64 vd] 3)).heap.size := by have := hp4.moved.size; simp; omega
        have HZ5 := Lib.hid hz5
        clear hb4 hb34 hp4 hrt5 hz5 y0 y1 y2 k0 k1 k2
        go_wp2_with (at_builtin; go_must (refine wpList_addIm rfl _ _ rfl w.heap.size (.slice A' i c') J' rfl HO5.out (w4.heap.size + 1) (.slice (some ⟨w4.heap.size, 0, none⟩) 1 1) [vd] rfl HRD.out (by rw [HJL.out]; simp only [List.length_cons, List.length_nil]; omega) HZ5.out ?_))
        intro A6 c6 w6 ho6 hg6
        have HP6 := Lib.hid (HP5.out.grow HO5.out (by decide) (by decide) hg6.out)
        have ho6' := ho6.out
        clear hg6 ho6
        simp only [HJL.out] at ho6'
        have HO6 := Lib.hid ho6'; clear ho6'
        have hJi := HJL.out
        go_wp2_with fail
        go_roundw
        case rel => exact ⟨i + 1, A6, c6, ovi, Li, by omega, by go_num, by rw [hJi], Lib.hid (by rw [HVD.out]; exact HO6.out), HP6, HRT5, by omega⟩
        case measure => simp [intOf]; omega
    · obtain rfl : i = ts.length := by omega
      have htk : (ts.map (·.t)).take ts.length = ts.map (·.t) := List.take_of_length_le (by simp)
      rw [htk, ← HO.out] at HOI
      rw [htk, ← HN.out] at HRT
      have hOl : O.length = ts.length := by rw [HO.out, judgeL_len, List.length_map]
      have hNok := Mk.Ok.judgeM (ts.map (·.t)) H5.out (v := v) (by omega) hv.2
      rw [← HN.out] at hNok
      have hfin : ∃ G', MkAt wr base q G' (n + 4) N ∧ (∀ i, G' i → PmD q ov i ∨ w.heap.size ≤ i) ∧ Mv (PmD q ov) w wr ∧ RdG encI 1 wr wr.heap.size (fun i => G' i ∨ Else w (PmD q ov) i) (.slice A' ts.length c') O := by
        refine ⟨PmD q ovi, ⟨ovi, Li, by rw [hNok.2.2]; exact HPW.out.now, rfl, by rw [hNok.2.2]; exact HRT.out.1, HRT.out.2, by omega, hNok.1, by omega⟩, fun j hj => ?_, HPW.out.moved, ?_⟩
        · rcases hj with rfl | hj
          · exact .inl (.inl rfl)
          · rcases HPW.out.new j hj.symm with h1 | h1
            · exact .inl (.inr h1.symm)
            · exact .inr h1
        · refine RdG.own encI_len HOI.out (fun b hb1 hb2 hb3 => ?_)
          rintro ((rfl | hb) | ⟨_, hb⟩)
          · omega
          · obtain ⟨A9, c9, _, ho9, hv9⟩ := HPW.out.now.blk
            exact Own.apartM HOI.out ho9 (by decide) hb3 (hv9.trans hb.symm)
          · omega
      have HFIN := Lib.hid hfin
      have HOL := Lib.hid hOl
      clear hfin hOl hNok htk
      go_wp2_with fail
      go_ret2
      exact ⟨A', c', by rw [HOL.out]; rfl, by rw [HOL.out]; exact HFIN.out⟩
end Go.Proofs.YtgppgecglkellaaGreat
namespace Go.Proofs.YtgppgecglkellaaGreat

theorem lists_gt : ∀ l : List UInt8, l < l ++ [0]
  | [] => by decide
  | a :: l => by
    have := lists_gt l
    exact List.Lex.cons this
theorem lists_gap : ∀ l m : List UInt8, m ≤ l ∨ l ++ [0] ≤ m
  | [], [] => .inl (by decide)
  | [], b :: m => .inr (by
      show ¬ (b :: m : List UInt8) < [0]
      intro h
      cases h with
      | rel h => exact absurd h (by simp [UInt8.lt_iff_toNat_lt])
      | cons h => cases h)
  | a :: l, [] => .inl (by show ¬ (a :: l : List UInt8) < []; intro h; cases h)
  | a :: l, b :: m => by
    rcases Nat.lt_trichotomy b.toNat a.toNat with h | h | h
    · exact .inl (Std.le_of_lt (List.Lex.rel (UInt8.lt_iff_toNat_lt.2 h)))
    · obtain rfl : b = a := UInt8.toNat_inj.1 h
      rcases lists_gap l m with h1 | h1
      · refine .inl ?_
        show ¬ (b :: l : List UInt8) < b :: m
        intro h2
        cases h2 with
        | rel h => exact absurd h (by simp)
        | cons h => exact h1 h
      · refine .inr ?_
        show ¬ (b :: m : List UInt8) < b :: (l ++ [0])
        intro h2
        cases h2 with
        | rel h => exact absurd h (by simp)
        | cons h => exact h1 h
    · exact .inr (Std.le_of_lt (List.Lex.rel (UInt8.lt_iff_toNat_lt.2 h)))
theorem next_data (k : K) : (k ++ ⟨#[0]⟩ : K).data.toList = k.data.toList ++ [0] := by simp
theorem next_gt (k : K) : k < k ++ ⟨#[0]⟩ := by
  show k.data.toList < (k ++ ⟨#[0]⟩ : K).data.toList
  rw [next_data]; exact lists_gt _
theorem next_gap (k m : K) : m ≤ k ∨ k ++ ⟨#[0]⟩ ≤ m := by
  show m.data.toList ≤ k.data.toList ∨ (k ++ ⟨#[0]⟩ : K).data.toList ≤ m.data.toList
  rw [next_data]; exact lists_gap _ _

theorem next_only (a k : K) : (a ≤ k ∧ k < a ++ ⟨#[0]⟩) ↔ k = a := by
  have h1 := next_gt a
  have h2 := next_gap a k
  constructor
  · rintro ⟨h3, h4⟩
    rcases h2 with h | h <;> grind
  · rintro rfl
    exact ⟨Std.IsPreorder.le_refl _, h1⟩
end Go.Proofs.YtgppgecglkellaaGreat
namespace Go.Proofs.YtgppgecglkellaaGreat
open Go.RowKit

def kA : K := ⟨#[97]⟩
def kB : K := ⟨#[98]⟩
def kC : K := ⟨#[99]⟩
def awT1 : Txn := ⟨0, [], [⟨1, kA, ⟨#[]⟩⟩]⟩
def awT2 : Txn := ⟨6, [(kA, kB)], []⟩
theorem kAB : kA < kB := by decide
theorem kAC : kA < kC := by decide
theorem aw_keys (k : K) : keysOf awT1 k ↔ k = kA := by
  unfold keysOf awT1
  simp only [List.map_cons, List.map_nil, mem_cons, mem_nil, or_false, cspan]
  rw [if_neg (by decide)]
  constructor
  · rintro ⟨h1, h2⟩
    rcases next_gap kA k with h | h
    · exact Std.IsPartialOrder.le_antisymm _ _ h h1
    · simp only at h2
      grind
  · rintro rfl
    exact ⟨Std.IsPreorder.le_refl _, next_gt _⟩
noncomputable def awM : Mk := wrote (mnew 5) 9 awT1
theorem awM_f (k : K) : awM.f k = if k = kA then 9 else 0 := by
  unfold awM wrote
  simp only
  by_cases h : k = kA
  · rw [if_pos ((aw_keys k).2 h), if_pos h]
  · rw [if_neg (fun e => h ((aw_keys k).1 e)), if_neg h]
    rfl
theorem awM_floor : awM.floor = 5 := rfl
theorem aw_hasA {t : K} (h : kA < t) : has (kA, t) kA := ⟨Std.IsPreorder.le_refl _, h⟩
theorem aw_v1 : verd (mnew 5) awT1 = 1 := by
  unfold verd
  rw [if_neg (by simp [awT1]), if_neg]
  rintro ⟨s, hs, _⟩
  simp [awT1] at hs
theorem aw_v2 : verd awM awT2 = 2 := by
  unfold verd
  rw [if_neg (by rw [awM_floor]; simp [awT2]), if_pos]
  exact ⟨(kA, kB), by simp [awT2], kA, aw_hasA kAB, by rw [awM_f, if_pos rfl, awM_floor]; omega, by rw [awM_f, if_pos rfl]; simp [awT2]⟩
theorem aw_judge : judgeL (mnew 5) 9 [awT1, awT2] = [1, 2] ∧ judgeM (mnew 5) 9 [awT1, awT2] = awM := by
  have e1 : judge1 (mnew 5) 9 awT1 = awM := by unfold judge1; rw [if_pos aw_v1]; rfl
  have e2 : judge1 awM 9 awT2 = awM := by unfold judge1; rw [if_neg (by rw [aw_v2]; omega)]
  simp only [judgeL, judgeM]
  rw [e1, e2, aw_v1, aw_v2]
  exact ⟨rfl, rfl⟩
theorem aw_sound : soundT awT1 ∧ soundT awT2 := by
  constructor
  · refine ⟨by decide, by decide, by simp [awT1], by decide, by decide⟩
  · refine ⟨by decide, by decide, ?_, by decide, by decide⟩
    intro s hs
    simp only [awT2, List.mem_cons, List.not_mem_nil, or_false] at hs
    subst hs
    exact ⟨by decide, by decide, by decide⟩
theorem aw_fit : fitT awT1 ∧ fitT awT2 := by
  constructor
  · refine ⟨by decide, by simp [awT1], by decide, fun c hc => ?_⟩
    simp only [awT1, List.mem_cons, List.not_mem_nil, or_false] at hc
    subst hc
    exact ⟨by decide, by decide⟩
  · refine ⟨by decide, fun s hs => ?_, by decide, by simp [awT2]⟩
    simp only [awT2, List.mem_cons, List.not_mem_nil, or_false] at hs
    subst hs
    exact ⟨by decide, by decide⟩
theorem aw_err : jerr (mnew 5) 9 [awT1, awT2] = 0 := by
  unfold jerr
  rw [if_neg (by simp [mnew]), if_neg]
  rintro (h | ⟨t, ht, hn⟩)
  · simp at h
  · simp only [List.mem_cons, List.not_mem_nil, or_false] at ht
    rcases ht with rfl | rfl
    · exact hn aw_sound.1
    · exact hn aw_sound.2
theorem aw_out : jout (mnew 5) 9 [awT1, awT2] = [1, 2] ∧ jnext (mnew 5) 9 [awT1, awT2] = awM := by
  unfold jout jnext
  rw [aw_err, if_pos rfl, if_pos rfl]
  exact aw_judge
theorem aw_last {n : Int} (hok : awM.Ok) (h : LastIs awM (kA, kC) n) : n = 9 := by
  refine LastIs.eq hok h (.inr ⟨by rw [awM_floor]; omega, ⟨kA, aw_hasA kAC, by rw [awM_f, if_pos rfl]⟩, fun k _ => ?_⟩)
  rw [awM_f]
  split <;> omega
theorem aw_size {n : Nat} (h : SizeIs awM.f awM.floor n) : n = 1 := by
  refine SizeIs.eq h ⟨[kA], by simp, rfl, fun k => ?_⟩
  rw [List.mem_singleton]
  unfold isStart
  rw [awM_floor]
  constructor
  · rintro rfl
    refine ⟨by rw [awM_f, if_pos rfl]; omega, fun j hj => ⟨j, Std.IsPreorder.le_refl _, hj, ?_⟩⟩
    rw [awM_f, awM_f, if_pos rfl, if_neg (by rintro rfl; grind)]
    omega
  · rintro ⟨h1, _⟩
    rw [awM_f] at h1
    by_cases e : k = kA
    · exact e
    · rw [if_neg e] at h1; omega
/-- what a call leaves of the marks' -/
theorem mv_below {base q n : Nat} {G : Nat → Prop} {m : Mk} {w w' : World} (h : MkAt w base q G n m) (hm : Mv G w w') : Below base w w' := hm.below h.low.1 fun i hi => (h.low.2 i hi).1
theorem MkAt.new {base q n : Nat} {G : Nat → Prop} {m : Mk} {w w' : World} (h : MkAt w base q G n m) (hb : Below w.heap.size w w') : MkAt w' base q G n m := h.mv (Mv.of_new hb (fun _ => False)) (fun _ _ h => h)
set_option maxRecDepth 100000 in
theorem RdG.atI {w : World} {B : Nat} {G : Nat → Prop} {v : Value} {l : List Int} (h : RdG encI 1 w B G v l) : ∃ A c, v = .slice A l.length c ∧ l.length ≤ c ∧ ∀ i (_ : i < l.length), ∃ b o, A = some ⟨b, o, none⟩ ∧ b < B ∧ ¬ G b ∧ w.cell? ⟨b, o + i, none⟩ = some (.int .i64 l[i]) := by
  obtain ⟨A, c, hv, hc, hi⟩ := h
  refine ⟨A, c, hv, hc, fun i hs => ?_⟩
  obtain ⟨b, o, hA, hB, hg, h1⟩ := hi i hs
  have := h1 0 _ rfl
  simp only [Nat.mul_one, Nat.add_zero] at this
  exact ⟨b, o, hA, hB, hg, this⟩
/-- a row of one kind of cells, whole, as a slice -/
theorem Whole.rdg {α : Type} {enc : α → List Value} {k : Nat} {w : World} {g : Nat} {t : TypeId} {B : Nat} {G : Nat → Prop} {l : List α} {c : Nat} (hk : ∀ x, (enc x).length = k) (h : Whole w g t (flatG enc l)) (hc : l.length ≤ c) (hB : g < B) (hG : ¬ G g) : RdG enc k w B G (.slice (some ⟨g, 0, none⟩) l.length c) l := by
  refine ⟨_, c, rfl, hc, fun i hi => ⟨g, 0, rfl, hB, hG, fun j u hu => ?_⟩⟩
  have hj : j < k := by
    rcases Nat.lt_or_ge j k with h' | h'
    · exact h'
    · rw [List.getElem?_eq_none (by rw [hk]; exact h')] at hu; cases hu
  refine h.cell _ _ ?_
  rw [Nat.zero_add, flatG_get hk l i hi j hj]
  exact hu
end Go.Proofs.YtgppgecglkellaaGreat
namespace Go.Proofs.YtgppgecglkellaaGreat
open Go.RowKit

end Go.Proofs.YtgppgecglkellaaGreat
