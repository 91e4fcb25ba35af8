/- Joining spans: what span.Join answers. -/
import Derived.Test.YtdkdolcocblhkaaRise
import Derived.BigQuiet
import Derived.Deep.QuietTactic
namespace Go.Proofs.Ytdkdolcocblhkaa
open Go.RowKit
attribute [local go_sem] less_eq same_eq le_eq ge_eq gt_eq

set_option maxHeartbeats 1000000 in
set_option maxRecDepth 100000 in
theorem add_nil (w0 w : World) (ob : Nat) (v : Value) (s : K × K) (hw : w0.grownBy w (some ob)) (hob : w.heap[ob]? = some (.cells #[v] 36 (0, 0))) (ho : OwnS w w0.heap.size v []) (hlt : ob < w0.heap.size) :
    Calls Try.prog 62 #[.agg #[.string s.1, .string s.2], .pointer (some ⟨ob, 0, none⟩)] w fun e w' => e = .returned (.tuple #[]) ∧ ∃ v', w'.heap[ob]? = some (.cells #[v'] 36 (0, 0)) ∧ OwnS w' w0.heap.size v' [s] ∧ w0.grownBy w' (some ob) := by
  have hv : ∃ A c, v = .slice A 0 c := by
    rcases ho.form with ⟨rfl, _⟩ | ⟨g, cap, rfl, _⟩
    · exact ⟨_, _, rfl⟩
    · exact ⟨_, _, rfl⟩
  obtain ⟨A, c, rfl⟩ := hv
  have hc := cell_of_one hob
  have hf := free_of_one hob
  have hlt' := lt_of_block hob
  have HO := Lib.hid ho; clear ho
  have HB := Lib.hid hob; clear hob
  have HW := Lib.hid hw; clear hw
  go_enter Try.func62, Try.ntmps62
  go_wp2_with fail
  go_quiet (fail)
  go_wp2_with (at_builtin; refine wpList_addS rfl _ _ rfl w0.heap.size (.slice A 0 c) [] rfl ?c0 _ 1 [s] rfl ?c1 ?c2 ?c3 ?_)
  case c0 => exact ((HO.out.alloc _).drewN nq).alloc _
  case c1 => simpa using new_cells ((w.alloc (.cells #[.string s.1, .string s.2] 48)).drewN nq) s 48
  case c2 => simp
  case c3 => have := HW.out.size; simp; omega
  intro A' c' w1 ho1 hg1
  have hz := HW.out.size
  have hrow : ∀ k, (Value.slice A 0 c).ownBlock = some k → w0.heap.size ≤ k := fun k hk => (HO.out.lt k hk).1
  have hne : some ob ≠ (Value.slice A 0 c).ownBlock := fun e => by have := hrow ob e.symm; omega
  have hb1 : w1.heap[ob]? = some (.cells #[.slice A 0 c] 36 (0, 0)) := by
    rw [hg1.block ob (by simp; omega) hne, Below.heap_alloc _ _ _ (by simp; omega)]
    show (w.alloc _).heap[ob]? = _
    rw [Below.heap_alloc _ _ _ hlt']
    exact HB.out
  have hc1 := cell_of_one hb1
  have hf1 := free_of_one hb1
  have HO1 := Lib.hid ho1; clear ho1
  have HG1 := Lib.hid hg1; clear hg1
  have HB1 := Lib.hid hb1; clear hb1
  clear hc hf
  go_wp2_with fail
  go_end0
  refine ⟨rfl, _, one_setCell HB1.out, HO1.out.setOther hlt 0 _, grow_set (grow_trans (grow_alloc (grow_drewN (grow_alloc HW.out _) _) _) HG1.out fun k hk => .inl (hrow k hk)) 0 _⟩

set_option maxHeartbeats 1000000 in
set_option maxRecDepth 100000 in
theorem add_snoc (w0 w : World) (ob : Nat) (v : Value) (p : List (K × K)) (l s : K × K) (hw : w0.grownBy w (some ob)) (hob : w.heap[ob]? = some (.cells #[v] 36 (0, 0))) (ho : OwnS w w0.heap.size v (p ++ [l])) (hlt : ob < w0.heap.size) (hp : p.length ≤ 2000000) :
    Calls Try.prog 62 #[.agg #[.string s.1, .string s.2], .pointer (some ⟨ob, 0, none⟩)] w fun e w' => e = .returned (.tuple #[]) ∧ ∃ v', w'.heap[ob]? = some (.cells #[v'] 36 (0, 0)) ∧ OwnS w' w0.heap.size v' (jadd (p ++ [l]) s) ∧ w0.grownBy w' (some ob) := by
  have hv : ∃ g cap, v = .slice (some ⟨g, 0, none⟩) (p.length + 1) cap ∧ w0.heap.size ≤ g ∧ g < w.heap.size ∧ p.length + 1 ≤ cap := by
    rcases ho.form with ⟨_, h0⟩ | ⟨g, cap, hv, h1, h2, h3⟩
    · simp at h0
    · exact ⟨g, cap, by simpa using hv, h1, h2, by simpa using h3⟩
  obtain ⟨g, cap, rfl, hg0, hg, hcap⟩ := hv
  have hc := cell_of_one hob
  have hf := free_of_one hob
  have hlt' := lt_of_block hob
  have ho' : OwnS w w0.heap.size (.slice (some ⟨g, 0, none⟩) (p ++ [l]).length cap) (p ++ [l]) := by simpa using ho
  have hl1 : w.cell? ⟨g, p.length * 2, none⟩ = some (.string l.1) := by
    unfold OwnS at ho'; rw [ho'.cellAt _ (by simp), flat_append, List.getElem?_append_right (by rw [flat_length]; omega), flat_length, Nat.sub_self]; rfl
  have hl2 : w.cell? ⟨g, p.length * 2 + 1, none⟩ = some (.string l.2) := by
    unfold OwnS at ho'; rw [ho'.cellAt _ (by simp; omega), flat_append, List.getElem?_append_right (by rw [flat_length]; omega), flat_length, Nat.add_sub_cancel_left]; rfl
  have hfg : w.frozen? ⟨g, p.length * 2 + 1, none⟩ = false := by unfold OwnS at ho'; exact ho'.frozenAt _
  have hmax := fun (w : World) (ts : Array TypeId) (t : TypeId) (x y : ByteArray) => (Lib.run_max_strs (P := Try.prog) w ts t x y)
  simp only [maxS_eq] at hmax
  rw [jadd_snoc]
  have HO := Lib.hid ho'; clear ho ho'
  have HB := Lib.hid hob; clear hob
  have HW := Lib.hid hw; clear hw
  by_cases hx : s.1 ≤ l.2
  · rw [if_pos hx]
    go_enter Try.func62, Try.ntmps62
    go_wp2_with fail
    go_quiet (fail)
    go_wp2_with fail
    go_region
    go_wp2_with fail
    refine bodyPost_ret (results_none rfl _ _ _) rfl ?_
    have hne : ob ≠ g := by have := HW.out.size; omega
    refine ⟨rfl, .slice (some ⟨g, 0, none⟩) (p.length + 1) cap, ?_, by simpa using (((HO.out.alloc _).drewN nq).drewN 1).setLast (mx l.2 s.2), grow_setNew (grow_drewN (grow_drewN (grow_alloc HW.out _) _) 1) hg0 _ _⟩
    rw [Below.heap_setCell _ _ _ _ (by exact hne)]
    exact (Below.heap_alloc _ _ _ hlt').trans HB.out
  · rw [if_neg hx]
    go_enter Try.func62, Try.ntmps62
    go_wp2_with fail
    go_quiet (fail)
    go_wp2_with (at_builtin; refine wpList_addS rfl _ _ rfl w0.heap.size (.slice (some ⟨g, 0, none⟩) (p.length + 1) cap) (p ++ [l]) rfl ?c0 _ 1 [s] rfl ?c1 ?c2 ?c3 ?_)
    case c0 => simpa using ((HO.out.alloc _).drewN nq).alloc (.cells #[.string s.1, .string s.2] 48)
    case c1 => simpa using new_cells ((w.alloc (.cells #[.string s.1, .string s.2] 48)).drewN nq) s 48
    case c2 => simp; omega
    case c3 => have := HW.out.size; simp; omega
    intro A' c' w1 ho1 hg1
    have hz := HW.out.size
    have hb1 : w1.heap[ob]? = some (.cells #[.slice (some ⟨g, 0, none⟩) (p.length + 1) cap] 36 (0, 0)) := by
      rw [hg1.block ob (by simp; omega) (fun e => by simp [Value.ownBlock] at e; omega), Below.heap_alloc _ _ _ (by simp; omega)]
      show (w.alloc _).heap[ob]? = _
      rw [Below.heap_alloc _ _ _ hlt']
      exact HB.out
    have hc1 := cell_of_one hb1
    have hf1 := free_of_one hb1
    have HO1 := Lib.hid ho1; clear ho1
    have HG1 := Lib.hid hg1; clear hg1
    have HB1 := Lib.hid hb1; clear hb1
    clear hc hf hl1 hl2 hfg
    go_wp2_with fail
    go_end0
    refine ⟨rfl, _, one_setCell HB1.out, ?_, grow_set (grow_trans (grow_alloc (grow_drewN (grow_alloc HW.out _) _) _) HG1.out fun k hk => .inl (by simp [Value.ownBlock] at hk; omega)) 0 _⟩
    simpa using HO1.out.setOther hlt 0 _

/-- what the closure of Join adds -/
theorem add_any (w0 w : World) (ob : Nat) (v : Value) (out : List (K × K)) (s : K × K) (hw : w0.grownBy w (some ob)) (hob : w.heap[ob]? = some (.cells #[v] 36 (0, 0))) (ho : OwnS w w0.heap.size v out) (hlt : ob < w0.heap.size) (hp : out.length ≤ 2000000) :
    Calls Try.prog 62 #[.agg #[.string s.1, .string s.2], .pointer (some ⟨ob, 0, none⟩)] w fun e w' => e = .returned (.tuple #[]) ∧ ∃ v', w'.heap[ob]? = some (.cells #[v'] 36 (0, 0)) ∧ OwnS w' w0.heap.size v' (jadd out s) ∧ w0.grownBy w' (some ob) := by
  rcases List.eq_nil_or_concat out with rfl | ⟨p, l, rfl⟩
  · exact add_nil w0 w ob v s hw hob ho hlt
  · rw [List.concat_eq_append] at *
    exact add_snoc w0 w ob v p l s hw hob ho hlt (by simp at hp; omega)

theorem jadd_len (out : List (K × K)) (s : K × K) : (jadd out s).length ≤ out.length + 1 := by
  rcases List.eq_nil_or_concat out with rfl | ⟨p, l, rfl⟩
  · simp [jadd_nil]
  · rw [List.concat_eq_append, jadd_snoc]
    split <;> simp
theorem jfold_len : ∀ (l out : List (K × K)), (l.foldl jadd out).length ≤ out.length + l.length
  | [], out => by simp
  | s :: r, out => by
    have h1 := jfold_len r (jadd out s)
    have h2 := jadd_len out s
    simp only [List.foldl_cons, List.length_cons]
    omega

set_option maxHeartbeats 1000000 in
set_option maxRecDepth 100000 in
theorem join_any (l : List (K × K)) (v : Value) (w : World) (hv : RdS w w.heap.size v l) (hl : l.length ≤ 2000000) : Calls Try.prog 51 #[v] w fun e w' =>
    ∃ v' J, e = .returned v' ∧ OwnS w' w.heap.size v' J ∧ Below w.heap.size w w' ∧ Normal J ∧ (∀ k, mem J k ↔ mem l k) ∧ J.length ≤ 2000000 := by
  obtain ⟨A, c, rfl, hc⟩ : ∃ A c, v = .slice A l.length c ∧ l.length ≤ c := by obtain ⟨A, c, h1, h2, _⟩ := hv; exact ⟨A, c, h1, h2⟩
  have hr := fun W (hW : RdS W W.heap.size (.slice A l.length c) l) => rising_any l (.slice A l.length c) W hW hl
  have HR := Lib.hid hr; clear hr
  have HV := Lib.hid hv; clear hv
  go_enter Try.func51, Try.ntmps51
  go_wp2_with fail
  refine (HR.out _ ((HV.out.below ((Below.refl _ w).alloc (Nat.le_refl _) _) (Nat.le_refl _)).mono (by simp))).mono ?_
  rintro e w2 ⟨v', l', rfl, ho2, hb2, hp, hq⟩
  obtain ⟨A', c', rfl, hi⟩ := ho2.read
  have hll : l'.length ≤ 2000000 := by rw [hp.length_eq]; exact Nat.le_trans (List.length_filter_le _ _) hl
  have hbox : w2.heap[w.heap.size]? = some (.cells #[.slice none 0 0] 36 (0, 0)) := by
    rw [hb2.block _ (by simp)]
    exact heap_alloc_new w _
  have hw2 : w.heap.size < w2.heap.size := by have := hb2.size; simp at this; omega
  have hbw : Below w.heap.size w w2 := ((Below.refl _ w).alloc (Nat.le_refl _) _).trans (hb2.mono (by simp))
  have HI := Lib.hid hi; clear hi ho2
  have HB := Lib.hid hbox; clear hbox
  have HP := Lib.hid hp; clear hp
  have HQ := Lib.hid hq; clear hq
  have HBW := Lib.hid hbw; clear hbw hb2
  go_wp2_with fail
  go_loopw [11] (fun i wr => ∃ (j : Nat) (ov : Value), j ≤ l'.length ∧ i = .int .i64 j ∧ w2.grownBy wr (some w.heap.size) ∧ wr.heap[w.heap.size]? = some (.cells #[ov] 36 (0, 0)) ∧ OwnS wr w2.heap.size ov ((l'.take j).foldl jadd [])) (fun i _ => l'.length - (intOf i).toNat)
  case atStart => exact ⟨0, _, Nat.zero_le _, rfl, ⟨rfl, rfl, rfl, Nat.le_refl _, fun _ _ _ => rfl⟩, HB.out, OwnS.nil _ _⟩
  case round =>
    obtain ⟨j, ov, hj, rfl, hg, hb, ho⟩ := hrel
    by_cases hlt : j < l'.length
    · obtain ⟨g, rfl, hg1, hg2, h1, h2⟩ := HI.out j hlt
      have hne : some g ≠ some w.heap.size := fun e => by simp at e hg1; omega
      have g1 := hg.cell h1 hne
      have g2 := hg.cell h2 hne
      have hlen : ((l'.take j).foldl jadd []).length ≤ 2000000 := Nat.le_trans (jfold_len _ _) (by simp; omega)
      have hst : (l'.take (j + 1)).foldl jadd [] = jadd ((l'.take j).foldl jadd []) l'[j] := by rw [List.take_succ_eq_append_getElem hlt, List.foldl_append]; rfl
      have HS := Lib.hid hst; clear hst
      clear h1 h2 hne
      have hadd := fun W h1 h2 h3 => add_any w2 W w.heap.size ov _ l'[j] h1 h2 h3 hw2 hlen
      have HA := Lib.hid hadd; clear hadd hlen
      have HG := Lib.hid hg; clear hg
      have HX := Lib.hid hb; clear hb
      have HO := Lib.hid ho; clear ho
      go_wp2_with fail
      refine (HA.out _ (grow_alloc HG.out _) ((Below.heap_alloc _ _ _ (lt_of_block HX.out)).trans HX.out) (HO.out.alloc _)).mono ?_
      rintro e w3 ⟨rfl, ov', hb3, ho3, hg3⟩
      have HG3 := Lib.hid hg3; clear hg3
      have HX3 := Lib.hid hb3; clear hb3
      have HO3 := Lib.hid ho3; clear ho3
      go_wp2_with fail
      go_roundw
      case rel => exact ⟨j + 1, ov', by omega, by go_num, HG3.out, HX3.out, by rw [HS.out]; exact HO3.out⟩
      case measure => simp [intOf]; omega
    · obtain rfl : j = l'.length := by omega
      have hcell := cell_of_one hb
      rw [List.take_length] at ho
      have HG := Lib.hid hg; clear hg
      have HX := Lib.hid hb; clear hb
      have HO := Lib.hid ho; clear ho
      go_wp2_with fail
      have hfull : ∀ s ∈ l', s.1 < s.2 := fun s hs => by
        have := (HP.out.mem_iff.1 hs)
        simpa [full] using (List.mem_filter.1 this).2
      obtain ⟨n1, n2⟩ := join_ok l' hfull HQ.out
      have hmem : ∀ k, mem l' k ↔ mem l k := fun k => by
        rw [mem_perm HP.out]
        constructor
        · rintro ⟨s, hs, hk⟩; exact ⟨s, (List.mem_filter.1 hs).1, hk⟩
        · rintro ⟨s, hs, hk⟩; exact ⟨s, List.mem_filter.2 ⟨hs, by unfold has at hk; simp [full]; grind⟩, hk⟩
      refine bodyPost_ret (v := ov) ?_ rfl ⟨_, _, rfl, HO.out.lower (Nat.le_of_lt hw2), ?_, n1, fun k => (n2 k).trans (hmem k), Nat.le_trans (jfold_len _ _) (by simpa using hll)⟩
      · simp [results, Try.results51, go_sem]
      · have h1 := HBW.out
        have h2 := HG.out
        exact ⟨h2.os.trans h1.os, h2.tape.trans h1.tape, h2.output.trans h1.output, Nat.le_trans h1.size h2.size, fun k hk => (h2.block k (by omega) (by simp; omega)).trans (h1.block k hk)⟩
end Go.Proofs.Ytdkdolcocblhkaa
