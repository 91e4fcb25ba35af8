/- slices.Backward over deeds; upTo: what was done up to a version. -/
import Derived.RangeFuncNested
import Derived.RangeFuncBound
import Derived.RangeFuncCalls
import Derived.RangeFuncLeaves
import Derived.Shelf.Abstract
import Derived.Shelf.RegionOpen
import Derived.OwnWalkIn
import Derived.TacticsInMore
import Derived.LoopNIn
import Derived.LoopIn
import Derived.Test.YtpfhkijnaiopoaaPDd
namespace Go.Proofs.Ytpfhkijnaiopoaa
open Go.RowKit Go.Shelf
attribute [local go_sem] Oper.semAt_some

/-- what has come when m rounds are over: the last m, from behind -/
def bk (n m : Nat) : List (Fin n) := (List.finRange n).reverse.take m
theorem bk_succ (n m : Nat) (h : m < n) : bk n (m + 1) = bk n m ++ [⟨n - 1 - m, by omega⟩] := by
  unfold bk
  rw [List.take_succ_eq_append_getElem (by simpa using h)]
  congr 2
  rw [List.getElem_reverse, List.getElem_finRange]
  simp
theorem bk_length (n m : Nat) (h : m ≤ n) : (bk n m).length = m := by simp [bk, h]
theorem bk_mem {n m : Nat} (i : Fin n) (h : n - 1 - i.1 < m) : i ∈ bk n m := by
  unfold bk
  rw [List.mem_take_iff_getElem]
  have hi := i.2
  refine ⟨n - 1 - i.1, by simp; omega, ?_⟩
  rw [List.getElem_reverse, List.getElem_finRange]
  apply Fin.ext
  simp
  omega
theorem bk_last {n m : Nat} {ini : List (Fin n)} {last : Fin n} (hm : m ≤ n) (h : ini ++ [last] = bk n m) : ini = bk n (n - 1 - last.1) := by
  rcases m with _ | m
  · simp [bk] at h
  · rw [bk_succ n m (by omega)] at h
    obtain ⟨rfl, e⟩ := List.append_inj' h rfl
    simp at e
    subst e
    simp only
    congr 1
    omega
def encB (ds : List Dd) (x : Fin ds.length) : Array Value := #[.int .i64 (x.1 : Int), .agg #[.int .i64 ds[x].1, .int .i64 ds[x].2.kind, .string ds[x].2.key, .string ds[x].2.val]]

set_option maxRecDepth 100000 in
set_option maxHeartbeats 2000000 in
theorem backward1_in (F : Fence) (n : Nat) (h8 : F.fn 50) (hro : F.round = none) (hn : 1 ≤ n) (l Bs n₀ : Nat) (A : Option Addr) (c : Nat) (ds : List Dd) (hreach : ds.length < 4611686018427387904) (J Jx : List (Fin ds.length) → World → Prop)
    (hY : ∀ pre x W, J pre W → pre.length < ds.length → YieldAt F (n - 1) Try.prog l (encB ds x) W fun e W' =>
      (e = .returned (.bool true) ∧ J (pre ++ [x]) W' ∧ Below n₀ W W') ∨ (e = .returned (.bool false) ∧ Jx (pre ++ [x]) W'))
    (W : World) (hB : Bs < n₀) (hBs : W.cell? ⟨Bs, 0, none⟩ = some (.slice A ds.length c)) (hc : RdD W n₀ (.slice A ds.length c) ds) (h0 : J [] W) :
    CallsIn F n Try.prog 50 #[.func (.yield l) #[] #[], .pointer (some ⟨Bs, 0, none⟩)] W fun e W' => (∃ v, e = .returned v) ∧
      ((∃ ys, ys = bk ds.length ds.length ∧ J ys W') ∨ (∃ pre, (∃ m, m ≤ ds.length ∧ pre = bk ds.length m) ∧ Jx pre W')) := by
  refine callsIn_of_wp Try.func50 rfl h8 ?_ hro
  simp only [Try.ntmps50, List.size_toArray, List.length_cons, List.length_nil, Nat.reduceAdd, Nat.reduceSub, Array.replicate_succ, Array.replicate_zero, List.push_toArray, List.append_toArray, List.nil_append, List.cons_append]
  obtain ⟨A', c', hv, hcl, hi⟩ := hc.at
  injection hv with hv1 _ hv3
  subst hv1 hv3
  have HI := Lib.hid hi; clear hi
  clear hc
  gi_wp2
  gi_loopw [3] (fun i wr => ∃ k : Nat, k ≤ ds.length ∧ i = .int .i64 ((k : Int) - 1) ∧ J (bk ds.length (ds.length - k)) wr ∧ Below n₀ W wr)
    (fun i _ => (intOf i + 1).toNat)
  case atStart => exact ⟨ds.length, Nat.le_refl _, rfl, by rw [Nat.sub_self]; exact h0, Below.refl _ _⟩
  case round =>
    obtain ⟨k, hk, rfl, hJs, hnx⟩ := hrel
    have hsl := (hnx.cell (p := ⟨Bs, 0, none⟩) hB).trans hBs
    rcases k with _ | k
    · have hneg : ¬ (0 : Int) ≤ (((0 : Nat) : Int) - 1) := by omega
      gi_wp2
      go_end0
      exact ⟨⟨_, rfl⟩, .inl (by simpa using hJs)⟩
    · have ek : (((k + 1 : Nat) : Int) - 1) = (k : Int) := by omega
      rw [ek]
      have hlt : k < ds.length := by omega
      obtain ⟨b, o, rfl, hbB, k0, k1, k2, k3⟩ := HI.out k hlt
      rw [← hnx.cell (p := ⟨b, _, none⟩) hbB] at k0 k1 k2 k3
      have hbk := bk_succ ds.length (ds.length - (k + 1)) (by omega)
      have hix : (⟨ds.length - 1 - (ds.length - (k + 1)), by omega⟩ : Fin ds.length) = ⟨k, hlt⟩ := Fin.ext (by simp; omega)
      rw [hix, show ds.length - (k + 1) + 1 = ds.length - k by omega] at hbk
      obtain ⟨fn, tmps, assign, body, hy, hR⟩ := hY _ ⟨k, hlt⟩ wr hJs (by rw [bk_length _ _ (by omega)]; omega)
      rw [← hbk] at hR
      clear hbk hix
      unfold encB at hy
      simp only [Fin.getElem_fin] at hy
      generalize ds[k] = d at k0 k1 k2 k3 hy
      obtain ⟨dv, dk, dx, dy⟩ := d
      dsimp only at hy k0 k1 k2 k3
      have hge : (0 : Int) ≤ (k : Int) := by omega
      have hkl : (k : Int) < (ds.length : Int) := by omega
      gi_wp2
      refine hR.mono ?_
      rintro e W3 (⟨rfl, hJ3, hk3⟩ | ⟨rfl, hJx3⟩)
      · gi_wp2
        go_roundw
        case rel => exact ⟨k, by omega, by simp, hJ3, hnx.trans hk3⟩
        case measure => simp [intOf]
      · gi_wp2
        refine bodyPost_ret (results_none rfl _ _ _) rfl ?_
        exact ⟨⟨_, rfl⟩, .inr ⟨_, ⟨ds.length - k, by omega, rfl⟩, hJx3⟩⟩

set_option maxHeartbeats 1000000 in
theorem backward_in (F : Fence) (n : Nat) (h5 : F.fn 34) (hro : F.round = none) (a : Option Addr) (len cap : Nat) (w : World) :
    CallsIn F n Try.prog 34 #[.slice a len cap] w fun e w' => e = .returned (.func (.func 50) #[] #[.pointer (some ⟨w.heap.size, 0, none⟩)]) ∧ w' = w.alloc (.cells #[.slice a len cap] 63) := by
  refine callsIn_of_wp Try.func34 rfl h5 ?_ hro
  simp only [Try.ntmps34, List.size_toArray, List.length_cons, List.length_nil, Nat.reduceAdd, Nat.reduceSub, Array.replicate_succ, Array.replicate_zero, List.push_toArray, List.append_toArray, List.nil_append, List.cons_append]
  gi_wp2
  go_ret
  exact ⟨rfl, rfl⟩

theorem backward_stops (F : Fence) (n : Nat) (h8 : F.fn 50) (hro : F.round = none) (hn : 1 ≤ n) (Bs n₀ : Nat) (A : Option Addr) (c : Nat) (ds : List Dd) (hreach : ds.length < 4611686018427387904) (w : World) (hBs : Bs < n₀) (hn₀ : n₀ ≤ w.heap.size)
    (hc : w.cell? ⟨Bs, 0, none⟩ = some (.slice A ds.length c)) (hI : RdD w n₀ (.slice A ds.length c) ds) :
    SeqStopsK F n Try.prog 50 #[.pointer (some ⟨Bs, 0, none⟩)] (encB ds) (Below n₀) (fun ys => ys = bk ds.length ds.length)
      (fun pre => ∃ m, m ≤ ds.length ∧ pre = bk ds.length m) ds.length w := fun l J Jx W hW _ _ hY h0 => by
  have hc' := (hW.cell (p := ⟨Bs, 0, none⟩) (show Bs < w.heap.size by omega)).trans hc
  exact backward1_in F n h8 hro hn l Bs n₀ A c ds hreach J Jx hY W hBs hc' (hI.below (hW.mono hn₀) (Nat.le_refl _)) h0

theorem whole_own {β : Type} (B : Nat) (t : TypeId) (f : β → List Value) : Go.Own (fun s W => Whole W B t (f s)) := fun s X Y row hs hg hrow =>
  hs.grown hg (fun e' => by obtain ⟨o, ho, hc⟩ := hrow B e'.symm; rw [show X.heap[B]? = _ from hs] at ho; cases ho; cases hc)
theorem keeps_of_below {W W' : World} (hb : Below W.heap.size W W') : KeepsOthers W W' := ⟨hb.size, fun k o hk _ => (hb.block k (Array.getElem?_eq_some_iff.1 hk).1).trans hk⟩
set_option maxRecDepth 100000 in
set_option maxHeartbeats 4000000 in
theorem upTo_in (F : Fence) (n : Nat) (h35 : F.fn 35) (h34 : F.fn 34) (h50 : F.fn 50) (hro : F.round = none) (hn : 3 ≤ n)
    (q : Nat) (f0 f1 bv dv : Value) (ds : List Dd) (v : Int) (w : World) (hb : Whole w q 65 [f0, f1, bv, dv]) (hd : RdD w w.heap.size dv ds) (hreach : ds.length < 4611686018427387904) :
    CallsIn F n Try.prog 35 #[.pointer (some ⟨q, 0, none⟩), .int .i64 v] w fun e w' =>
      ((e = .returned (.slice none 0 0) ∧ ∀ i (_ : i < ds.length), v < ds[i].1) ∨ (∃ A c, dv = .slice A ds.length c ∧ ∃ i, ∃ hi : i < ds.length, e = .returned (.slice A (i + 1) c) ∧ ds[i].1 ≤ v ∧ ∀ j (_ : j < ds.length), i < j → v < ds[j].1)) ∧ Below w.heap.size w w' := by
  have h1 : 1 ≤ n := by omega
  obtain ⟨A, c, rfl, hcl, _⟩ := id hd
  have hq := hb.size
  refine callsIn_of_wp_marks Try.func35 rfl h35 ?_ hro
  simp only [Try.ntmps35, List.size_toArray, List.length_cons, List.length_nil, Nat.reduceAdd, Nat.reduceSub, Array.replicate_succ, Array.replicate_zero, List.push_toArray, List.append_toArray, List.nil_append, List.cons_append]
  have q3 := (((hb.alloc (.cells #[.pointer (some ⟨q, 0, none⟩)] 24)).alloc (.cells #[.int .i64 v] 3)).alloc (.cells #[.slice none 0 0] 63)).cell 3 _ rfl
  gi_wp2_with (gi_at_call 34; refine (backward_in F (n - 1) h34 hro _ _ _ _).mono ?_; rintro e w' ⟨rfl, rfl⟩)
  have b0 := (((Boxed.new w 24 (.pointer (some ⟨q, 0, none⟩))).alloc (.cells #[.int .i64 v] 3)).alloc (.cells #[.slice none 0 0] 63)).alloc (.cells #[.slice A ds.length c] 63)
  have b1 := ((Boxed.new (w.alloc (.cells #[.pointer (some ⟨q, 0, none⟩)] 24)) 3 (.int .i64 v)).alloc (.cells #[.slice none 0 0] 63)).alloc (.cells #[.slice A ds.length c] 63)
  have b2 := (Boxed.new ((w.alloc (.cells #[.pointer (some ⟨q, 0, none⟩)] 24)).alloc (.cells #[.int .i64 v] 3)) 63 (.slice none 0 0)).alloc (.cells #[.slice A ds.length c] 63)
  have b3 := Boxed.new (((w.alloc (.cells #[.pointer (some ⟨q, 0, none⟩)] 24)).alloc (.cells #[.int .i64 v] 3)).alloc (.cells #[.slice none 0 0] 63)) 63 (.slice A ds.length c)
  have hB0 : Below w.heap.size w ((((w.alloc (.cells #[.pointer (some ⟨q, 0, none⟩)] 24)).alloc (.cells #[.int .i64 v] 3)).alloc (.cells #[.slice none 0 0] 63)).alloc (.cells #[.slice A ds.length c] 63)) := ((((Below.refl _ w).alloc (Nat.le_refl _) _).alloc (by simp) _).alloc (by simp; omega) _).alloc (by simp; omega) _
  simp only [World.size_alloc] at b1 b2 b3
  have hsz : ((((w.alloc (.cells #[.pointer (some ⟨q, 0, none⟩)] 24)).alloc (.cells #[.int .i64 v] 3)).alloc (.cells #[.slice none 0 0] 63)).alloc (.cells #[.slice A ds.length c] 63)).heap.size = w.heap.size + 4 := by simp
  obtain ⟨W0, hW0⟩ : ∃ W0, ((((w.alloc (.cells #[.pointer (some ⟨q, 0, none⟩)] 24)).alloc (.cells #[.int .i64 v] 3)).alloc (.cells #[.slice none 0 0] 63)).alloc (.cells #[.slice A ds.length c] 63)) = W0 := ⟨_, rfl⟩
  rw [hW0] at b0 b1 b2 b3 hB0 hsz ⊢
  clear hW0
  have hd0 : RdD W0 W0.heap.size (.slice A ds.length c) ds := (hd.below hB0 (Nat.le_refl _)).mono (by omega)
  have q3w := hb.cell 3 _ rfl
  have HD := Lib.hid hd; clear hd
  rename_i hi0 _ _ _
  have HI0 := Lib.hid hi0; clear hi0 q3
  refine wpIn_rangeFunc_ownH hro h1 (gf := 50) (lb := #[.pointer (some ⟨w.heap.size + 1 + 1 + 1, 0, none⟩)]) rfl h50 (enters_of Try.func50 (by kernel_rfl) rfl)
    (backward_stops F (n - 1) h50 hro (by omega) (w.heap.size + 1 + 1 + 1) W0.heap.size A c ds hreach W0 (by omega) (Nat.le_refl _) b3.cell hd0) belowK_t (belowK_b (Nat.le_refl _)) (Below.refl _ _) (fun _ => rfl)
    (fun (pre : List (Fin ds.length)) W => (∀ x ∈ pre, v < ds[x].1) ∧ Below W0.heap.size W0 W)
    (fun jc (pre : List (Fin ds.length)) W => (jc = .ret ∧ ∃ (ini : List (Fin ds.length)) (last : Fin ds.length), pre = ini ++ [last] ∧ (∀ x ∈ ini, v < ds[x].1) ∧ ds[last].1 ≤ v ∧ Boxed W (w.heap.size + 1 + 1) 63 (.slice A (last.1 + 1) c)) ∧ Below w.heap.size w W)
    (OwnFrom.and (ownFrom_pure _ _) (ownFrom_below (Nat.le_refl _) (Nat.le_refl _)))
    (fun jc => OwnFrom.and (Own.from (fun s X Y row hs hg hr => by obtain ⟨hc, ini, last, e1, e2, e3, e4⟩ := hs; exact ⟨hc, ini, last, e1, e2, e3, boxed_own _ _ (fun (_ : Unit) => Value.slice A (last.1 + 1) c) () X Y row e4 hg hr⟩) _) (ownFrom_below (Nat.le_refl _) (by omega)))
    ⟨by simp, Below.refl _ _⟩
    (fun (x : Fin ds.length) a' W => ∃ Bx, w.heap.size + 1 + 1 + 1 < Bx ∧ Whole W Bx 72 (encD ds[x]) ∧ a' = { tmps := #[.pointer (some ⟨q, 0, none⟩), .int .i64 v, .pointer (some ⟨w.heap.size, 0, none⟩), .pointer (some ⟨w.heap.size + 1, 0, none⟩), .pointer (some ⟨w.heap.size + 1 + 1, 0, none⟩), .int .i64 (x.1 : Int), .pointer (some ⟨Bx, 0, none⟩), .pointer (some ⟨q, 0, none⟩), .pointer (some ⟨q, 0, none⟩), .pointer (some ⟨q, 3, none⟩), .slice A ds.length c, .func (.func 50) #[] #[.pointer (some ⟨w.heap.size + 1 + 1 + 1, 0, none⟩)], .int .i64 (x.1 : Int), .agg #[.int .i64 ds[x].1, .int .i64 ds[x].2.kind, .string ds[x].2.key, .string ds[x].2.val], undef, undef, undef, undef, undef, undef, undef, undef, undef, undef, undef], defers := [] })
    (fun x a' _ X Y row hs hg hr => by obtain ⟨Bx, h1, h2, h3⟩ := hs; exact ⟨Bx, h1, whole_own Bx 72 (fun (_ : Unit) => encD ds[x]) () X Y row h2 hg (fun r e => (hr r e).2), h3⟩)
    ?assign ?body ?done ?stop
  case assign =>
    rintro l pre x W K ⟨hp, hBW⟩ hK
    unfold encB
    generalize ds[x] = d at hK ⊢
    obtain ⟨xv, xk, xx, xy⟩ := d
    gi_wp2
    exact hK _ _ ((KeepsOthers.alloc _ _).from _) ((Below.refl _ W).alloc hBW.size _) ⟨hp, hBW.alloc hBW.size _⟩ ⟨W.heap.size, by have := hBW.size; omega, Whole.fresh W _ _, rfl⟩
  case body =>
    rintro l pre x a' W hl _ ⟨hp, hBW⟩ ⟨Bx, hBx, hW, rfl⟩ hlt
    have hx1 := x.2
    have c0 := hW.cell 0 _ rfl
    have hsz2 := hBW.size
    have b0' : Boxed W w.heap.size 24 (.pointer (some ⟨q, 0, none⟩)) := (hBW.block _ (by omega)).trans b0
    have b1' : Boxed W (w.heap.size + 1) 3 (.int .i64 v) := (hBW.block _ (by omega)).trans b1
    have b2' : Boxed W (w.heap.size + 1 + 1) 63 (.slice none 0 0) := (hBW.block _ (by omega)).trans b2
    have hBw : Below w.heap.size w W := hB0.trans (hBW.mono (by omega))
    have q3 := (hBw.cell (p := ⟨q, 3, none⟩) hq).trans q3w
    have d0 := b0'.cell
    have d1 := b1'.cell
    have d2 := b2'.cell
    have f2 := b2'.frozen
    have hpx : ∀ u, ds[x].1 ≤ v → ownPostG W0.heap.size (Below W0.heap.size)
      (fun (pre : List (Fin ds.length)) W => (∀ x ∈ pre, v < ds[x].1) ∧ Below W0.heap.size W0 W)
      (fun jc (pre : List (Fin ds.length)) W => (jc = .ret ∧ ∃ (ini : List (Fin ds.length)) (last : Fin ds.length), pre = ini ++ [last] ∧ (∀ x ∈ ini, v < ds[x].1) ∧ ds[last].1 ≤ v ∧ Boxed W (w.heap.size + 1 + 1) 63 (.slice A (last.1 + 1) c)) ∧ Below w.heap.size w W)
      (pre ++ [x]) W .ret u (W.setCell ⟨w.heap.size + 1 + 1, 0, none⟩ (.slice A (x.1 + 1) c)) := fun u h =>
      ⟨(KeepsOthers.setCell _ _ _).from _, ⟨rfl, pre, x, rfl, hp, h, b2'.set _⟩, hBw.setCell (p := ⟨w.heap.size + 1 + 1, 0, none⟩) (show w.heap.size ≤ w.heap.size + 1 + 1 by omega) _⟩
    have hpn : ∀ u, v < ds[x].1 → ownPostG W0.heap.size (Below W0.heap.size)
      (fun (pre : List (Fin ds.length)) W => (∀ x ∈ pre, v < ds[x].1) ∧ Below W0.heap.size W0 W)
      (fun jc (pre : List (Fin ds.length)) W => (jc = .ret ∧ ∃ (ini : List (Fin ds.length)) (last : Fin ds.length), pre = ini ++ [last] ∧ (∀ x ∈ ini, v < ds[x].1) ∧ ds[last].1 ≤ v ∧ Boxed W (w.heap.size + 1 + 1) 63 (.slice A (last.1 + 1) c)) ∧ Below w.heap.size w W)
      (pre ++ [x]) W .normal u W := fun u h => ⟨KeepsFrom.refl _ _, Below.refl _ _, fun y hy => by
        rcases List.mem_append.1 hy with hy | hy
        · exact hp y hy
        · simp at hy; subst hy; exact h, hBW⟩
    obtain ⟨i, hi⟩ := x
    simp only [Fin.getElem_fin] at c0 ⊢
    simp only at hx1
    simp only at hpx hpn
    clear hp
    have hpx1 := fun u (h : ds[i].1 ≤ v) => hpx u h
    have hpn1 := fun u (h : v < ds[i].1) => hpn u h
    clear hpx hpn
    clear hsz hsz2
    obtain ⟨X, hX⟩ : ∃ X, X = ds[i] := ⟨_, rfl⟩
    rw [← hX] at c0 hpx1 hpn1 ⊢
    clear hX
    obtain ⟨xv, xk, xx, xy⟩ := X
    simp only at c0 hpx1 hpn1
    have HPX := Lib.hid hpx1; clear hpx1
    have HPN := Lib.hid hpn1; clear hpn1
    have hi0 : (0 : Int) ≤ (i : Int) + 1 := by omega
    have hi1 : (i : Int) + 1 ≤ (c : Int) := by omega
    have hi2 : ((i : Int) + 1).toNat = i + 1 := by omega
    have hi3 : IntKind.i64.wrap ((i : Int) + 1) = (i : Int) + 1 := wrap_small _ (by omega) (by omega)
    by_cases hv : xv ≤ v
    · gi_wp2
      exact HPX.out _ hv
    · gi_wp2
      exact HPN.out _ (by omega)
  case done =>
    rintro D ys W hD rfl ⟨hp, hBW⟩ hK
    have b2' : Boxed W (w.heap.size + 1 + 1) 63 (.slice none 0 0) := (hBW.block _ (by omega)).trans b2
    have hBw : Below w.heap.size w W := hB0.trans (hBW.mono (by omega))
    have d2 := b2'.cell
    have f2 := b2'.frozen
    have hall : ∀ i (_ : i < ds.length), v < ds[i].1 := fun i hi => hp ⟨i, hi⟩ (bk_mem _ (by simp; omega))
    have HALL := Lib.hid hall; clear hall hp
    gi_wp2
    have hK' := (KeepsOthers.setCell W ⟨w.heap.size + 1 + 1, 0, none⟩ (.slice none 0 0)).same D _ hK rfl
    refine ⟨by simp, .inl ⟨_, _, rfl, run_takeDeferred hK', ?_⟩⟩
    have hc5 := cell_kept (World.cell?_setCell_same' W ⟨w.heap.size + 1 + 1, 0, none⟩ (.slice none 0 0) (by rw [d2]; rfl)) (grownBy_putObj' _ D (.deferred none)) (fun r e => by cases e; exact ⟨_, hK', rfl⟩)
    refine ⟨.slice none 0 0, ?_, .inl ⟨rfl, HALL.out⟩, (hBw.setCell (p := ⟨w.heap.size + 1 + 1, 0, none⟩) (show w.heap.size ≤ w.heap.size + 1 + 1 by omega) _).trans (belowK_b (w := w) (Nat.le_refl _) _ D _ _ (by omega) hK' rfl rfl)⟩
    simp [results, Try.f35, go_sem, hc5]
  case stop =>
    rintro D jc pre W hD ⟨m, hm, rfl⟩ ⟨⟨rfl, ini, last, e1, e2, e3, b2'⟩, hBw⟩ hK
    have hini := bk_last hm e1.symm
    have d2 := b2'.cell
    gi_wp2
    refine ⟨by simp, .inl ⟨_, _, rfl, run_takeDeferred hK, ?_⟩⟩
    have hc5 := cell_kept d2 (grownBy_putObj' _ D (.deferred none)) (fun r e => by cases e; exact ⟨_, hK, rfl⟩)
    refine ⟨.slice A (last.1 + 1) c, ?_, .inr ⟨A, c, rfl, last.1, last.2, rfl, e3, fun j hj hij => e2 ⟨j, hj⟩ (by rw [hini]; exact bk_mem _ (by simp; omega))⟩, hBw.trans (belowK_b (w := w) (Nat.le_refl _) _ D _ _ (by omega) hK rfl rfl)⟩
    simp [results, Try.f35, go_sem, hc5]

theorem upTo_any (q : Nat) (f0 f1 bv dv : Value) (ds : List Dd) (v : Int) (w : World) (hb : Whole w q 65 [f0, f1, bv, dv]) (hd : RdD w w.heap.size dv ds) (hr : Rise ds) (hreach : ds.length < 4611686018427387904) :
    Calls Try.prog 35 #[.pointer (some ⟨q, 0, none⟩), .int .i64 v] w fun e w' => ∃ A c, e = .returned (.slice A (cnt ds v) c) ∧ RdD w' w'.heap.size (.slice A (cnt ds v) c) (ds.take (cnt ds v)) ∧ Below w.heap.size w w' := by
  refine ((callsIn_wide (n := 6)).1 (upTo_in Fence.wide 6 trivial trivial trivial rfl (by omega) q f0 f1 bv dv ds v w hb hd hreach)).mono ?_
  rintro e w' ⟨h | ⟨A, c, rfl, i, hi, rfl, h1, h2⟩, hb'⟩
  · obtain ⟨rfl, h⟩ := h
    have e0 : cnt ds v = 0 := cnt_zero fun j hj => by have := h j hj; omega
    rw [e0]
    exact ⟨none, 0, rfl, Rd.none_ _ _ _ _, hb'⟩
  · have e0 : cnt ds v = i + 1 := cnt_at hr hi h1 fun j hj hij => by have := h2 j hj hij; omega
    rw [e0]
    exact ⟨A, c, rfl, ((hd.below hb' (Nat.le_refl _)).mono hb'.size).take (i + 1) (by omega), hb'⟩
end Go.Proofs.Ytpfhkijnaiopoaa
