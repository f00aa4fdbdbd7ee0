/- What the reference's Blend and Put, and Alu and Rmw of chapter 1 and of the reference, return, each for every input; and that the statements' own first check passes. -/
import Derived.Test.YtlhompedcphnnaaBBytes
namespace Go.Proofs.Ytlhompedcphnnaa
open Go.RowKit

/-- what an OpAlu computes -/
def aluR (fn a b : Int) : Int := if fn = 1 then wrap64 (a + b) else if fn = 2 then wrap64 (a - b) else if fn = 3 then bits .xor .i64 a b else if fn = 4 then bits .and .i64 a b else if fn = 5 then bits .or .i64 a b else 0
theorem alu_any (fn a b : Int) (w : World) : Calls Try.prog 46 #[.int .i64 fn, .int .i64 a, .int .i64 b] w fun e w' => e = .returned (.int .i64 (aluR fn a b)) ∧ w' = w := by
  by_cases h1 : fn = 1
  · subst h1; go_enter Try.func46, Try.ntmps46; go_wp2; go_ret; exact ⟨rfl, rfl⟩
  by_cases h2 : fn = 2
  · subst h2; go_enter Try.func46, Try.ntmps46; go_wp2; go_ret; exact ⟨rfl, rfl⟩
  by_cases h3 : fn = 3
  · subst h3; go_enter Try.func46, Try.ntmps46; go_wp2; go_ret; exact ⟨rfl, rfl⟩
  by_cases h4 : fn = 4
  · subst h4; go_enter Try.func46, Try.ntmps46; go_wp2; go_ret; exact ⟨rfl, rfl⟩
  by_cases h5 : fn = 5
  · subst h5; go_enter Try.func46, Try.ntmps46; go_wp2; go_ret; exact ⟨rfl, rfl⟩
  have e : aluR fn a b = 0 := by unfold aluR; simp [h1, h2, h3, h4, h5]
  have e1 : (fn == 1) = false := by simpa using h1
  have e2 : (fn == 2) = false := by simpa using h2
  have e3 : (fn == 3) = false := by simpa using h3
  have e4 : (fn == 4) = false := by simpa using h4
  have e5 : (fn == 5) = false := by simpa using h5
  rw [e]; clear e h1 h2 h3 h4 h5
  go_enter Try.func46, Try.ntmps46; go_wp2; go_ret; exact ⟨rfl, rfl⟩
theorem ralu_any (fn a b : Int) (w : World) : Calls Try.prog 50 #[.int .i64 fn, .int .i64 a, .int .i64 b] w fun e w' => e = .returned (.int .i64 (aluR fn a b)) ∧ w' = w := by
  by_cases h1 : fn = 1
  · subst h1; go_enter Try.func50, Try.ntmps50; go_wp2; go_ret; exact ⟨rfl, rfl⟩
  by_cases h2 : fn = 2
  · subst h2; go_enter Try.func50, Try.ntmps50; go_wp2; go_ret; exact ⟨rfl, rfl⟩
  by_cases h3 : fn = 3
  · subst h3; go_enter Try.func50, Try.ntmps50; go_wp2; go_ret; exact ⟨rfl, rfl⟩
  by_cases h4 : fn = 4
  · subst h4; go_enter Try.func50, Try.ntmps50; go_wp2; go_ret; exact ⟨rfl, rfl⟩
  by_cases h5 : fn = 5
  · subst h5; go_enter Try.func50, Try.ntmps50; go_wp2; go_ret; exact ⟨rfl, rfl⟩
  have e : aluR fn a b = 0 := by unfold aluR; simp [h1, h2, h3, h4, h5]
  have e1 : (fn == 1) = false := by simpa using h1
  have e2 : (fn == 2) = false := by simpa using h2
  have e3 : (fn == 3) = false := by simpa using h3
  have e4 : (fn == 4) = false := by simpa using h4
  have e5 : (fn == 5) = false := by simpa using h5
  rw [e]; clear e h1 h2 h3 h4 h5
  go_enter Try.func50, Try.ntmps50; go_wp2; go_ret; exact ⟨rfl, rfl⟩

theorem get_int (v : BitVec 64) (a off n : Int) (ha : a = I v) (w : World) : Calls Try.prog 58 #[.int .i64 a, .int .i64 off, .int .i64 n] w fun e w' => e = .returned (.int .i64 (I (getR v off n))) ∧ ∃ q, w' = w.drewN q := by
  rw [ha]; exact get_all v off n w
theorem rget_int (v : BitVec 64) (a off n : Int) (ha : a = I v) (w : World) : Calls Try.prog 52 #[.int .i64 a, .int .i64 off, .int .i64 n] w fun e w' => e = .returned (.int .i64 (I (getR v off n))) ∧ w' = w := by
  rw [ha]; exact rget_all v off n w
/-- what an OpRmw writes -/
def rmwR (fn : Int) (old a : BitVec 64) (n : Int) : BitVec 64 := if fn = 6 then getR a 0 n else if fn = 1 then getR (old + a) 0 n else 0#64
theorem rmw_any (fn : Int) (old a : BitVec 64) (n : Int) (w : World) : Calls Try.prog 67 #[.int .i64 fn, .int .i64 (I old), .int .i64 (I a), .int .i64 n] w fun e w' => e = .returned (.int .i64 (I (rmwR fn old a n))) ∧ ∃ q, w' = w.drewN q := by
  by_cases h6 : fn = 6
  · subst h6
    go_enter Try.func67, Try.ntmps67
    go_wp2_with (go_at_call 58; refine (get_int a _ _ _ rfl _).mono ?_; rintro e w' ⟨rfl, q, rfl⟩)
    go_ret
    exact ⟨rfl, _, rfl⟩
  by_cases h1 : fn = 1
  · subst h1
    go_enter Try.func67, Try.ntmps67
    go_wp2_with (go_at_call 58; refine (get_int (old + a) _ _ _ (add old a) _).mono ?_; rintro e w' ⟨rfl, q, rfl⟩)
    go_ret
    exact ⟨rfl, _, rfl⟩
  have e : I (rmwR fn old a n) = 0 := by unfold rmwR; simp [h1, h6, I_zero]
  have e1 : (fn == 1) = false := by simpa using h1
  have e6 : (fn == 6) = false := by simpa using h6
  rw [e]; clear e h1 h6
  go_enter Try.func67, Try.ntmps67; go_wp2; go_ret; exact ⟨rfl, 0, rfl⟩
theorem rrmw_any (fn : Int) (old a : BitVec 64) (n : Int) (w : World) : Calls Try.prog 54 #[.int .i64 fn, .int .i64 (I old), .int .i64 (I a), .int .i64 n] w fun e w' => e = .returned (.int .i64 (I (rmwR fn old a n))) ∧ w' = w := by
  by_cases h6 : fn = 6
  · subst h6
    go_enter Try.func54, Try.ntmps54
    go_wp2_with (go_at_call 52; refine (rget_int a _ _ _ rfl _).mono ?_; rintro e w' ⟨rfl, rfl⟩)
    go_ret
    exact ⟨rfl, rfl⟩
  by_cases h1 : fn = 1
  · subst h1
    go_enter Try.func54, Try.ntmps54
    go_wp2_with (go_at_call 52; refine (rget_int (old + a) _ _ _ (add old a) _).mono ?_; rintro e w' ⟨rfl, rfl⟩)
    go_ret
    exact ⟨rfl, rfl⟩
  have e : I (rmwR fn old a n) = 0 := by unfold rmwR; simp [h1, h6, I_zero]
  have e1 : (fn == 1) = false := by simpa using h1
  have e6 : (fn == 6) = false := by simpa using h6
  rw [e]; clear e h1 h6
  go_enter Try.func54, Try.ntmps54; go_wp2; go_ret; exact ⟨rfl, rfl⟩

end Go.Proofs.Ytlhompedcphnnaa
