/-
  sync/atomic.Int64's methods, one goroutine. Conditions: the number lies where its pointer says. sync.Once, one goroutine: what Do does, the first time and later. Conditions: the Once lies where its pointer says, and its lock is free. sync.Once, one goroutine: the first time. Conditions: what the function that is called does is told; its Once stays as it was while it runs.
-/
import Derived.Test.YtdhjdkhhhdcjdaaMGo
import Derived.Laws.LoneSync
import Derived.Defers
import Derived.RegionCalls
/- sync/atomic.Int64's methods, one goroutine. Conditions: the number lies where its pointer says. -/
section
namespace Go.Proofs.Ytdhjdkhhhdcjdaa.Ce
set_option linter.unusedSimpArgs false
set_option linter.unusedVariables false
set_option maxRecDepth 100000
open Go.ChangeShapes Go.WideShapes Go.ChangeAt Go.RowKit

theorem at_load (b j : Nat) (v : Int) (W : World) (hc : W.cell? ⟨b, j, none⟩ = some (.int .i64 v)) : Calls Try.prog 59 #[.pointer (some ⟨b, j, none⟩)] W fun e w' => e = .returned (.int .i64 v) ∧ w' = W := by
  have hx := run_call_load (P := Try.prog) Try.func66 (by kernel_rfl) (by kernel_rfl) (by kernel_rfl) .i64 (by kernel_rfl) hc
  go_enter Try.func59, Try.ntmps59
  go_wp2
  go_ret
  exact ⟨rfl, rfl⟩
theorem at_add (b j : Nat) (v y : Int) (W : World) (hc : W.cell? ⟨b, j, none⟩ = some (.int .i64 v)) (hz : W.frozen? ⟨b, j, none⟩ = false) : Calls Try.prog 63 #[.pointer (some ⟨b, j, none⟩), .int .i64 y] W fun e w' => e = .returned (.int .i64 (IntKind.i64.wrap (v + y))) ∧ w' = W.setCell ⟨b, j, none⟩ (.int .i64 (IntKind.i64.wrap (v + y))) := by
  have hx := run_call_add (P := Try.prog) Try.func68 (by kernel_rfl) (by kernel_rfl) (by kernel_rfl) .i64 (by kernel_rfl) (y := y) (s := IntKind.i64.wrap (v + y)) hc hz (by simp [go_sem])
  generalize IntKind.i64.wrap (v + y) = z at *
  go_enter Try.func63, Try.ntmps63
  go_wp2
  go_ret
  exact ⟨rfl, rfl⟩
theorem at_cas_hit (b j : Nat) (v o y : Int) (W : World) (hc : W.cell? ⟨b, j, none⟩ = some (.int .i64 v)) (hz : W.frozen? ⟨b, j, none⟩ = false) (h : v = o) : Calls Try.prog 62 #[.pointer (some ⟨b, j, none⟩), .int .i64 o, .int .i64 y] W fun e w' => e = .returned (.bool true) ∧ w' = W.setCell ⟨b, j, none⟩ (.int .i64 y) := by
  subst h
  have hx := run_call_cas_hit (P := Try.prog) Try.func67 (by kernel_rfl) (by kernel_rfl) (by kernel_rfl) .i64 (by kernel_rfl) (y := y) hc hz
  go_enter Try.func62, Try.ntmps62
  go_wp2
  go_ret
  exact ⟨rfl, rfl⟩
theorem at_cas_miss (b j : Nat) (v o y : Int) (W : World) (hc : W.cell? ⟨b, j, none⟩ = some (.int .i64 v)) (hz : W.frozen? ⟨b, j, none⟩ = false) (h : ¬ v = o) : Calls Try.prog 62 #[.pointer (some ⟨b, j, none⟩), .int .i64 o, .int .i64 y] W fun e w' => e = .returned (.bool false) ∧ w' = W := by
  have hx := run_call_cas_miss (P := Try.prog) Try.func67 (by kernel_rfl) (by kernel_rfl) (by kernel_rfl) .i64 (by kernel_rfl) (o := o) (y := y) hc hz h
  clear h
  go_enter Try.func62, Try.ntmps62
  go_wp2
  go_ret
  exact ⟨rfl, rfl⟩
end Go.Proofs.Ytdhjdkhhhdcjdaa.Ce
end
/- sync.Once, one goroutine: what Do does, the first time and later. Conditions: the Once lies where its pointer says, and its lock is free. -/
section
namespace Go.Proofs.Ytdhjdkhhhdcjdaa.Ce
set_option linter.unusedSimpArgs false
set_option linter.unusedVariables false
set_option maxRecDepth 100000
open Go.ChangeShapes Go.WideShapes Go.ChangeAt Go.RowKit

theorem r_disable (w : World) : (callFunc 82 #[]).run Try.prog w = .ok (.value (.tuple #[])) w := run_call_mark0 Try.func82 (by kernel_rfl) (by kernel_rfl) (by kernel_rfl) .disable (by kernel_rfl) w
theorem r_enable (w : World) : (callFunc 84 #[]).run Try.prog w = .ok (.value (.tuple #[])) w := run_call_mark0 Try.func84 (by kernel_rfl) (by kernel_rfl) (by kernel_rfl) .enable (by kernel_rfl) w
theorem r_acquire (a : Addr) (w : World) : (callFunc 85 #[.pointer (some a)]).run Try.prog w = .ok (.value (.tuple #[])) w := run_call_marked Try.func85 (by kernel_rfl) (by kernel_rfl) (by kernel_rfl) .acquire (by kernel_rfl) a w
theorem r_releaseMerge (a : Addr) (w : World) : (callFunc 87 #[.pointer (some a)]).run Try.prog w = .ok (.value (.tuple #[])) w := run_call_marked Try.func87 (by kernel_rfl) (by kernel_rfl) (by kernel_rfl) .releaseMerge (by kernel_rfl) a w
theorem mu_lock (a : Addr) (w : World) (hc : w.cell? a = some (.int .i32 0)) (hz : w.frozen? a = false) : Calls Try.prog 75 #[.pointer (some a)] w fun e w' => e = .returned (.tuple #[]) ∧ w' = w.setCell a (.int .i32 1) := by
  have h1 := r_disable
  have h2 := r_enable
  have h3 := r_acquire
  have h4 := run_call_cas_hit (P := Try.prog) Try.func83 (by kernel_rfl) (by kernel_rfl) (by kernel_rfl) .i32 (by kernel_rfl) (y := 1) hc hz
  have h5 : (w.setCell a (.int .i32 1)).cell? a = some (.int .i32 1) := World.cell?_setCell_same w a _ hc
  have h6 := run_convert_to_unsafe (P := Try.prog) (src := 138) (dst := 142) Try.underlying138 Try.underlying142 (by kernel_rfl) h5
  go_enter Try.func75, Try.ntmps75
  go_wp2
  first | go_end0 | (simp only [Exit.inBlock, Exit.then]; refine bodyPost_ret (results_none rfl _ _ _) rfl ?_) | refine bodyPost_ret (results_none rfl _ _ _) rfl ?_
  go_wp2
  go_end0
  exact ⟨rfl, rfl⟩
theorem mu_unlock (a : Addr) (u : FrameMode) (w : World) (hc : w.cell? a = some (.int .i32 1)) (hz : w.frozen? a = false) : CallsD Try.prog 76 #[.pointer (some a)] u w fun e u' w' => u' = u ∧ (e = .returned (.tuple #[]) ∧ w' = w.setCell a (.int .i32 0)) := by
  have h1 := r_disable
  have h2 := r_enable
  have h3 := r_releaseMerge
  have h4 := run_call_add (P := Try.prog) Try.func88 (by kernel_rfl) (by kernel_rfl) (by kernel_rfl) .i32 (by kernel_rfl) (y := -1) (s := 0) hc hz (by simp [go_sem]; rfl)
  have h6 := run_convert_to_unsafe (P := Try.prog) (src := 138) (dst := 142) Try.underlying138 Try.underlying142 (by kernel_rfl) hc
  go_enter_d Try.func76, Try.ntmps76
  go_wp2
  go_end0
  go_wp2
  go_end0
  exact ⟨rfl, rfl⟩
theorem bool_store (a : Addr) (x : Value) (u : FrameMode) (w : World) (hc : w.cell? a = some x) (hz : w.frozen? a = false) : CallsD Try.prog 77 #[.pointer (some a), .bool true] u w fun e u' w' => u' = u ∧ (e = .returned (.tuple #[]) ∧ w' = w.drew.setCell a (.int .u32 1)) := by
  have hc' : w.drew.cell? a = some x := by go_simp
  have hz' : w.drew.frozen? a = false := by go_simp
  have h1 := run_call_store (P := Try.prog) Try.func80 (by kernel_rfl) (by kernel_rfl) (by kernel_rfl) (by kernel_rfl) (k := .u32) (y := 1) hc' hz'
  go_enter_d Try.func77, Try.ntmps77
  go_wp2
  go_region_calls
  all_goals (go_end0; exact ⟨rfl, rfl⟩)
theorem once_done (a : Addr) (d : Int) (hd : ¬ d = 0) (fv : Value) (w : World) (hc : w.cell? a = some (.int .u32 d)) : Calls Try.prog 70 #[.pointer (some a), fv] w fun e w' => e = .returned (.tuple #[]) ∧ w' = w := by
  have h1 := run_call_load (P := Try.prog) Try.func74 (by kernel_rfl) (by kernel_rfl) (by kernel_rfl) .u32 (by kernel_rfl) hc
  have h2 : ∀ (x : Bool) (w : World), (Op.unary .not (.bool x)).run Try.prog w = .ok (.bool (!x)) w := fun _ _ => rfl
  have h3 : (d != 0) = true := by simp [hd]
  go_enter Try.func70, Try.ntmps70
  go_wp2
  go_end0
  exact ⟨rfl, rfl⟩
end Go.Proofs.Ytdhjdkhhhdcjdaa.Ce
end
/- sync.Once, one goroutine: the first time. Conditions: what the function that is called does is told; its Once stays as it was while it runs. -/
section
namespace Go.Proofs.Ytdhjdkhhhdcjdaa.Ce
set_option linter.unusedSimpArgs false
set_option linter.unusedVariables false
set_option maxRecDepth 100000
open Go.ChangeShapes Go.WideShapes Go.ChangeAt Go.RowKit

set_option maxHeartbeats 1600000 in
theorem once_slow (b off F : Nat) (cap : Array Value) (hent : ∀ w, (callFunc F cap).run Try.prog w = .ok (.enter F cap) w) (R : World → Prop) (w : World) (h0 : w.cell? ⟨b, off, none⟩ = some (.int .u32 0)) (h1 : w.cell? ⟨b, off + 1, none⟩ = some (.int .i32 0)) (f0 : w.frozen? ⟨b, off, none⟩ = false) (f1 : w.frozen? ⟨b, off + 1, none⟩ = false)
    (hcl : Calls Try.prog F cap (w.setCell ⟨b, off + 1, none⟩ (.int .i32 1)) fun e w' => e = .returned (.tuple #[]) ∧ R w')
    (hR : ∀ V, R V → V.cell? ⟨b, off, none⟩ = some (.int .u32 0) ∧ V.cell? ⟨b, off + 1, none⟩ = some (.int .i32 1) ∧ V.frozen? ⟨b, off, none⟩ = false ∧ V.frozen? ⟨b, off + 1, none⟩ = false) :
    Calls Try.prog 73 #[.pointer (some ⟨b, off, none⟩), .func (.func F) #[] cap] w fun e w' => e = .returned (.tuple #[]) ∧ ∃ V, R V ∧ w' = (V.drew.setCell ⟨b, off, none⟩ (.int .u32 1)).setCell ⟨b, off + 1, none⟩ (.int .i32 0) := by
  have hl := run_call_load (P := Try.prog) Try.func74 (by kernel_rfl) (by kernel_rfl) (by kernel_rfl) .u32 (by kernel_rfl) (w := w.setCell ⟨b, off + 1, none⟩ (.int .i32 1)) (a := ⟨b, off, none⟩) (x := 0) ((World.cell?_setCell_other _ ⟨b, off + 1, none⟩ ⟨b, off, none⟩ _ (by simp)).trans h0)
  have hnot : ∀ (x : Bool) (w : World), (Op.unary .not (.bool x)).run Try.prog w = .ok (.bool (!x)) w := fun _ _ => rfl
  go_enter_defers Try.func73, Try.ntmps73
  go_wp2_with (first
    | (go_at_call 75; refine (mu_lock ⟨b, off + 1, none⟩ _ (by go_simp) (by go_simp)).mono ?_; rintro e w' ⟨rfl, rfl⟩)
    | (go_at_call 72; go_in))
  refine hcl.mono ?_
  rintro e V ⟨rfl, hV⟩
  obtain ⟨v0, v1, v2, v3⟩ := hR V hV
  clear hcl hR hent hl h0 h1 f0 f1
  go_wp2
  refine leaves_cons (f := 77) (args := #[.pointer (some ⟨b, off, none⟩), .bool true]) (by simp) (by simp [go_sem]) ?_
  refine (bool_store ⟨b, off, none⟩ (.int .u32 0) .returning _ v0 v2).mono ?_
  rintro e u' w'' ⟨rfl, rfl, rfl⟩
  refine leaves_cons (f := 76) (args := #[.pointer (some ⟨b, off + 1, none⟩)]) (by simp [settle]) (by simp [go_sem]) ?_
  refine (mu_unlock ⟨b, off + 1, none⟩ _ _ ?_ (by simp [v3])).mono ?_
  · refine (World.cell?_setCell_other _ ⟨b, off, none⟩ ⟨b, off + 1, none⟩ _ (by simp)).trans ?_
    rw [World.cell?_drew]
    exact v1
  rintro e u' w'' ⟨rfl, rfl, rfl⟩
  simp [Leaves, settle, results, Try.results73]
  exact ⟨V, hV, rfl⟩
theorem once_first (b off F : Nat) (cap : Array Value) (hent : ∀ w, (callFunc F cap).run Try.prog w = .ok (.enter F cap) w) (R : World → Prop) (w : World) (h0 : w.cell? ⟨b, off, none⟩ = some (.int .u32 0)) (h1 : w.cell? ⟨b, off + 1, none⟩ = some (.int .i32 0)) (f0 : w.frozen? ⟨b, off, none⟩ = false) (f1 : w.frozen? ⟨b, off + 1, none⟩ = false)
    (hcl : Calls Try.prog F cap (w.setCell ⟨b, off + 1, none⟩ (.int .i32 1)) fun e w' => e = .returned (.tuple #[]) ∧ R w')
    (hR : ∀ V, R V → V.cell? ⟨b, off, none⟩ = some (.int .u32 0) ∧ V.cell? ⟨b, off + 1, none⟩ = some (.int .i32 1) ∧ V.frozen? ⟨b, off, none⟩ = false ∧ V.frozen? ⟨b, off + 1, none⟩ = false) :
    Calls Try.prog 70 #[.pointer (some ⟨b, off, none⟩), .func (.func F) #[] cap] w fun e w' => e = .returned (.tuple #[]) ∧ ∃ V, R V ∧ w' = (V.drew.setCell ⟨b, off, none⟩ (.int .u32 1)).setCell ⟨b, off + 1, none⟩ (.int .i32 0) := by
  have hl := run_call_load (P := Try.prog) Try.func74 (by kernel_rfl) (by kernel_rfl) (by kernel_rfl) .u32 (by kernel_rfl) h0
  have hnot : ∀ (x : Bool) (w : World), (Op.unary .not (.bool x)).run Try.prog w = .ok (.bool (!x)) w := fun _ _ => rfl
  have hs := once_slow b off F cap hent R w h0 h1 f0 f1 hcl hR
  clear hcl hR
  go_enter Try.func70, Try.ntmps70
  go_wp2_with (first
    | (go_at_call 73; refine hs.mono ?_; rintro e w' ⟨rfl, V, hV, rfl⟩)
    | (go_at_call 72; go_in))
  go_end0
  exact ⟨rfl, V, hV, rfl⟩
end Go.Proofs.Ytdhjdkhhhdcjdaa.Ce
end
