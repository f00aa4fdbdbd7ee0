/- What Local comes to. -/
import Derived.Test.YtlhompedcphnnaaULoc0
namespace Go.Proofs.Ytlhompedcphnnaa
open Go.RowKit

def start0 (r0 : Nat → Int) (rds : List Int) : Wk := ⟨((0 : Nat) : Int), r0, rds, [], []⟩
def refused (e : Int) : Ending := .returned (.tuple #[.agg (regsC fun _ => 0), .slice none 0 0, .slice none 0 0, .int .i64 e])
def LPost (code : List Ins) (r0 : Nat → Int) (rds : List Int) (w : World) (e : Ending) (w' : World) : Prop :=
  Grow w w' ∧ if (checkR [code]).2.2 = 0 then (match runW code code.length ⟨((0 : Nat) : Int), r0, rds, [], []⟩ with
    | none => e = refused 24
    | some s => ∃ ev pa, e = .returned (.tuple #[.agg (regsC s.r), ev, pa, .int .i64 0]) ∧ w'.ownsRow w.heap.size 52 15 ev s.evs.length (evE s.evs) ∧ w'.ownsRow w.heap.size 3 1 pa s.path.length (paE s.path))
  else e = refused 1
theorem own_le {w : World} {b b' : Nat} {e : TypeId} {s n : Nat} {v : Value} {xs : List Value} (h : w.ownsRow b e s v n xs) (hb : b' ≤ b) : w.ownsRow b' e s v n xs := by
  obtain ⟨h1, h2⟩ := h
  refine ⟨h1, ?_⟩
  rcases h2 with h2 | ⟨g, cap, cur, hv, hg, h3⟩
  · exact .inl h2
  · exact .inr ⟨g, cap, cur, hv, Nat.le_trans hb hg, h3⟩
theorem own_smG {M : Nat → Option (Array Value)} {w w' : World} {b : Nat} {e : TypeId} {s n : Nat} {v : Value} {xs : List Value} (h : w.ownsRow b e s v n xs) (hS : SM M w w') (hM : ∀ k, b ≤ k → M k = none) : w'.ownsRow b e s v n xs :=
  own_keep h fun k hk => hS.block k (own_lt h k hk).2 (hM k (own_lt h k hk).1)
section
variable {code : List Ins} {r0 : Nat → Int} {rds : List Int} {w w' : World}
theorem LPost.bad (h : (checkR [code]).2.2 ≠ 0) (b : Grow w w') : LPost code r0 rds w (refused 1) w' := by
  refine ⟨b, ?_⟩; rw [if_neg h]
theorem LPost.none (h : (checkR [code]).2.2 = 0) (hr : runW code code.length ⟨((0 : Nat) : Int), r0, rds, [], []⟩ = none) (b : Grow w w') : LPost code r0 rds w (refused 24) w' := by
  refine ⟨b, ?_⟩; rw [if_pos h, hr]
theorem LPost.some {s : Wk} {G : Nat} {ev pa : Value} (h : (checkR [code]).2.2 = 0) (hr : runW code code.length ⟨((0 : Nat) : Int), r0, rds, [], []⟩ = some s) (b : Grow w w') (hG : w.heap.size ≤ G) (he : w'.ownsRow G 52 15 ev s.evs.length (evE s.evs)) (hp : w'.ownsRow G 3 1 pa s.path.length (paE s.path)) :
    LPost code r0 rds w (.returned (.tuple #[.agg (regsC s.r), ev, pa, .int .i64 0])) w' := by
  refine ⟨b, ?_⟩; rw [if_pos h, hr]; exact ⟨ev, pa, rfl, own_le he hG, own_le hp hG⟩
end
end Go.Proofs.Ytlhompedcphnnaa
