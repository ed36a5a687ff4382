/-
The walk that all statements of layer 2 begin with, and the document's constants as an array.
-/
import Derived.Test.YtblmmpgainogbaaDoorBlockWalks
import Derived.Test.YtblmmpgainogbaaDoorRef02Walks
namespace Go.Proofs.YtblmmpgainogbaaDoor
open Go.RowKit
theorem row_kB : row .u32 64 kB = (kTab.map (Value.int .u32)).toArray := by
  unfold row
  rw [kTab_words, List.map_map]; rfl
set_option maxRecDepth 100000 in
set_option maxHeartbeats 1000000 in
/-- Constants: the constants of all rounds. -/
theorem ref2Constants_any (w : World) :
    Calls Tryd.prog 9 #[] w fun e w' => e = .returned (.agg (row .u32 64 kB)) ∧ Below w.heap.size w w' := by
  have H0 := (heap_at_alloc w (.cells (row .u32 64 fun _ => 0#32) 28) w.heap.size).trans (if_pos rfl)
  have B0 := (Below.refl w.heap.size w).alloc (Nat.le_refl _) (.cells (row .u32 64 fun _ => 0#32) 28)
  rw [row_kB]
  go_enter Tryd.func9, Tryd.ntmps9
  go_wp2_with (first | (refine wpList_store_row rfl 28 (.tmp 0) (.tmp 1) rfl w.heap.size _ rfl rfl 28 _ H0 (by kernel_rfl) rfl (by kernel_rfl) ?_))
  exact bodyPost_ret (results_cell_row Tryd.results9 _ _ w.heap.size 28 _ (0, 0) _ rfl (setRow_heap _ _ _ _ _ _ H0) Tryd.underlying28 rfl (by kernel_rfl)) rfl ⟨rfl, below_setRow B0 (by omega) _⟩
def noughts8 : Array Value := #[.int .u32 0, .int .u32 0, .int .u32 0, .int .u32 0, .int .u32 0, .int .u32 0, .int .u32 0, .int .u32 0]
def woken8 : Array Value := #[.int .u32 2, .int .u32 0, .int .u32 0, .int .u32 0, .int .u32 2, .int .u32 0, .int .u32 0, .int .u32 0]
theorem round_one (w : World) : Calls Tryd.prog 10 #[.agg noughts8, .int .u32 1, .int .u32 1] w fun e w' => e = .returned (.agg woken8) ∧ Below w.heap.size w w' := by
  have h := round_any (fun _ => 0#32) 1#32 1#32 w
  have e : row .u32 8 (roundF (fun _ => 0#32) 1#32 1#32) = row .u32 8 (eight 2 0 0 0 2 0 0 0) := row_congr _ _ _ _ (eight_lt (p := fun i x => roundF (fun _ => 0#32) 1#32 1#32 i = x) (by decide) (by decide) (by decide) (by decide) (by decide) (by decide) (by decide) (by decide))
  rw [e] at h
  exact h
def byte7 (i : Nat) : BitVec 32 := if i = 3 then 7#32 else 0#32
theorem sched7_lo (t : Nat) (h : 0 < t) (h2 : t < 16) : sched byte7 t = 0#32 := by
  rw [sched_lo _ _ h2, word_def]
  unfold byte7
  rw [if_neg (by omega), if_neg (by omega), if_neg (by omega), if_neg (by omega)]; decide
theorem sched7_0 : sched byte7 0 = 7#32 := by
  rw [sched_lo _ _ (by omega), word_def]; decide
theorem sched7_16 : sched byte7 16 = 7#32 := by
  rw [sched_hi _ _ (by omega), sched7_lo 14 (by omega) (by omega), sched7_lo 9 (by omega) (by omega), sched7_lo 1 (by omega) (by omega), sched7_0]; decide
def bytes64 : Array Value := #[.int .u8 0, .int .u8 0, .int .u8 0, .int .u8 7, .int .u8 0, .int .u8 0, .int .u8 0, .int .u8 0, .int .u8 0, .int .u8 0, .int .u8 0, .int .u8 0, .int .u8 0, .int .u8 0, .int .u8 0, .int .u8 0,
  .int .u8 0, .int .u8 0, .int .u8 0, .int .u8 0, .int .u8 0, .int .u8 0, .int .u8 0, .int .u8 0, .int .u8 0, .int .u8 0, .int .u8 0, .int .u8 0, .int .u8 0, .int .u8 0, .int .u8 0, .int .u8 0,
  .int .u8 0, .int .u8 0, .int .u8 0, .int .u8 0, .int .u8 0, .int .u8 0, .int .u8 0, .int .u8 0, .int .u8 0, .int .u8 0, .int .u8 0, .int .u8 0, .int .u8 0, .int .u8 0, .int .u8 0, .int .u8 0,
  .int .u8 0, .int .u8 0, .int .u8 0, .int .u8 0, .int .u8 0, .int .u8 0, .int .u8 0, .int .u8 0, .int .u8 0, .int .u8 0, .int .u8 0, .int .u8 0, .int .u8 0, .int .u8 0, .int .u8 0, .int .u8 0]
theorem schedule_seven (w : World) : Calls Tryd.prog 8 #[.agg bytes64] w fun e w' => e = .returned (.agg (row .u32 64 (sched byte7))) ∧ Below w.heap.size w w' :=
  schedule_any byte7 w
theorem woken_same : ∀ w, (binOp .eql 23 (.agg woken8) (.agg woken8)).run Tryd.prog w = .ok (.bool true) w := fun _ => by kernel_rfl
theorem woken_guard : ∀ w, (eqGuard .eql 23 (.tmp 7) (.tmp 8) (.agg woken8) (.agg woken8)).run Tryd.prog w = .ok () w := fun _ => by kernel_rfl
set_option maxHeartbeats 1000000 in
theorem awake2_any (w : World) :
    Calls Tryd.prog 5 #[] w fun e w' => e = .returned (.bool true) ∧ Below w.heap.size w w' := by
  have hq := woken_same
  have hg := woken_guard
  unfold woken8 at hq hg
  have hr := round_one
  unfold noughts8 woken8 at hr
  have hs := schedule_seven
  unfold bytes64 at hs
  go_enter Tryd.func5, Tryd.ntmps5
  go_wp2_with (first | (go_at_call 10; refine (hr _).mono ?_; rintro e w1 ⟨rfl, hb1⟩) | (go_at_call 8; refine (hs _).mono ?_; rintro e w3 ⟨rfl, hb3⟩) | (refine store_new rfl 23 (.tmp 1) (.tmp 4) rfl rfl w1 _ _ 23 rfl rfl rfl (by kernel_rfl) rfl (by kernel_rfl) ?_; intro w2 hh2 hb2 hs2; have B2 := below_next hb1 hb2; have HH2 := Lib.hid hh2; clear hh2) | (refine store_new rfl 28 (.tmp 2) (.tmp 6) rfl rfl w3 _ _ 28 rfl rfl rfl (by kernel_rfl) rfl (row_one _ _ _) ?_; intro w4 hh4 hb4 hs4; have B4 := below_next (below_next B2 hb3) hb4; have HK := Lib.hid (((hb4.block w1.heap.size (Nat.lt_of_lt_of_le hs2 hb3.size)).trans (hb3.block w1.heap.size hs2)).trans HH2.out); have c0 : w4.cell? ⟨w3.heap.size, 0, none⟩ = some (.int .u32 7) := (by rw [cell_of_row w4 _ 0 _ _ _ hh4, row_get _ _ _ _ (by omega), sched7_0]; rfl); have c16 : w4.cell? ⟨w3.heap.size, 16, none⟩ = some (.int .u32 7) := (by rw [cell_of_row w4 _ 16 _ _ _ hh4, row_get _ _ _ _ (by omega), sched7_16]; rfl); clear hh4) | (refine wpList_load_row rfl 23 (.tmp 1) rfl w1.heap.size rfl 23 _ (0, 0) _ HK.out Tryd.underlying23 rfl (by kernel_rfl) ?_))
  go_ret
  exact ⟨rfl, B4⟩
end Go.Proofs.YtblmmpgainogbaaDoor
