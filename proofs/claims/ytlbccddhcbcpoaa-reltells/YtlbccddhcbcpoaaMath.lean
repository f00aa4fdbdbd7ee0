/- Plain facts on sets of thirty-two events as bit vectors and on relations as rows of such sets; no program is named here. -/
import Derived.WalkKit
namespace Go.Proofs.Ytlbccddhcbcpoaa
open Go.RowKit

/-- a set of events -/
abbrev St := BitVec 32
/-- a relation: by event, the set of those that it goes to -/
abbrev Rl := Fin 32 → BitVec 32
/-- the number that a set is -/
def U (x : St) : Int := (x.toNat : Int)

theorem U_bd (x : St) : 0 ≤ U x ∧ U x < 4294967296 := by unfold U; have := x.isLt; omega
theorem U_inj {x y : St} (h : U x = U y) : x = y := by unfold U at h; exact BitVec.eq_of_toNat_eq (by omega)
theorem U_zero : U 0#32 = 0 := by decide
theorem U_one : U 1#32 = 1 := by decide
theorem ofInt_U (x : St) : BitVec.ofInt 32 (U x) = x := by
  unfold U; apply BitVec.eq_of_toNat_eq; simp
theorem wrap_u32 (n : Int) : IntKind.u32.wrap n = U (BitVec.ofInt 32 n) := by
  unfold U; simp [IntKind.wrap, IntKind.bits, IntKind.signed, BitVec.toNat_ofInt]; omega
theorem wrap_U (x : St) : IntKind.u32.wrap (U x) = U x := by rw [wrap_u32, ofInt_U]
theorem bits_and (x y : St) : bits .and .u32 (U x) (U y) = U (x &&& y) := by
  show IntKind.u32.wrap ((BitVec.ofInt 32 (U x) &&& BitVec.ofInt 32 (U y)).toNat : Int) = _
  rw [ofInt_U, ofInt_U]; exact wrap_U _
theorem bits_or (x y : St) : bits .or .u32 (U x) (U y) = U (x ||| y) := by
  show IntKind.u32.wrap ((BitVec.ofInt 32 (U x) ||| BitVec.ofInt 32 (U y)).toNat : Int) = _
  rw [ofInt_U, ofInt_U]; exact wrap_U _
theorem bits_andNot (x y : St) : bits .andNot .u32 (U x) (U y) = U (x &&& ~~~y) := by
  show IntKind.u32.wrap ((BitVec.ofInt 32 (U x) &&& ~~~BitVec.ofInt 32 (U y)).toNat : Int) = _
  rw [ofInt_U, ofInt_U]; exact wrap_U _
theorem U_of_wf {a : Int} (h : (Lit.int .u32 a).wf = true) : ∃ x : St, a = U x := by
  have hb : 0 ≤ a ∧ a ≤ 4294967295 := by simpa [Lit.wf, IntKind.min, IntKind.max, IntKind.signed, IntKind.bits] using h
  refine ⟨BitVec.ofInt 32 a, ?_⟩
  unfold U; simp [BitVec.toNat_ofInt]; omega
theorem wf_U (x : St) : (Lit.int .u32 (U x)).wf = true := by
  have := U_bd x
  simp [Lit.wf, IntKind.min, IntKind.max, IntKind.signed, IntKind.bits]; omega

/-- the set of one event -/
def one (e : Nat) : St := 1#32 <<< e
theorem one_bit (e b : Nat) : (one e).getLsbD b = (decide (b < 32) && decide (b = e)) := by
  unfold one
  rw [BitVec.getLsbD_shiftLeft, BitVec.getLsbD_one]
  by_cases h : b = e
  · subst h; simp
  · by_cases h2 : b < e
    · simp [h2, h]
    · have : ¬ b - e = 0 := by omega
      simp [h2, h, this]
theorem shl_one (e : Nat) : IntKind.u32.wrap ((2 : Int) ^ e) = U (one e) := by
  rw [wrap_u32]; congr 1
  unfold one
  apply BitVec.eq_of_toNat_eq
  rw [BitVec.toNat_ofInt, BitVec.toNat_shiftLeft]
  have h1 : ((2 : Int) ^ e % ((2 ^ 32 : Nat) : Int)) = ((2 ^ e % 2 ^ 32 : Nat) : Int) := by rw [Int.natCast_emod, Int.natCast_pow]; rfl
  rw [h1, Int.toNat_natCast]; simp [Nat.shiftLeft_eq]
theorem U_one_pow (e : Nat) (h : e < 32) : U (one e) = 2 ^ e := by
  unfold U one
  rw [BitVec.toNat_shiftLeft]
  have h2 : 2 ^ e < 2 ^ 32 := Nat.pow_lt_pow_right (by omega) h
  simp [Nat.shiftLeft_eq]
  rw [Int.emod_eq_of_lt]
  · exact Int.le_of_lt (Int.pow_pos (by decide))
  · have : ((2 ^ e : Nat) : Int) < ((2 ^ 32 : Nat) : Int) := by omega
    simpa using this
/-- is an event in a set? -/
def inn (s : St) (e : Nat) : Bool := s.getLsbD e
theorem in_eq (s : St) (e : Nat) : U s / 2 ^ e % 2 = if inn s e then 1 else 0 := by
  unfold U inn
  have : ((s.toNat : Int) / 2 ^ e % 2) = ((s.toNat / 2 ^ e % 2 : Nat) : Int) := by push_cast; rfl
  rw [this, BitVec.getLsbD, Nat.testBit_eq_decide_div_mod_eq]
  by_cases h : s.toNat / 2 ^ e % 2 = 1
  · simp [h]
  · have : s.toNat / 2 ^ e % 2 = 0 := by omega
    simp [this]
theorem shr_U (s : St) (e : Nat) : U s / 2 ^ e = U (s >>> e) := by
  unfold U; rw [BitVec.toNat_ushiftRight, Nat.shiftRight_eq_div_pow]; push_cast; rfl
theorem and_one (s : St) : U (s &&& 1#32) = if inn s 0 then 1 else 0 := by
  unfold U inn
  rw [BitVec.toNat_and]
  simp [Nat.and_one_is_mod, BitVec.getLsbD, Nat.testBit_zero]
  by_cases h : s.toNat % 2 = 1
  · simp [h]; omega
  · have : s.toNat % 2 = 0 := by omega
    simp [this]; omega
theorem ext32 {x y : St} (h : ∀ b, b < 32 → x.getLsbD b = y.getLsbD b) : x = y := BitVec.eq_of_getLsbD_eq (fun i hi => h i hi)

/-- an event's row, of any number -/
def row (r : Rl) (k : Nat) : St := if h : k < 32 then r ⟨k, h⟩ else 0#32
theorem row_fin (r : Rl) (i : Fin 32) : row r i.val = r i := by unfold row; simp [i.isLt]
theorem row_of (r : Rl) {k : Nat} (h : k < 32) : row r k = r ⟨k, h⟩ := by unfold row; simp [h]
/-- a relation with one row turned -/
def upd (r : Rl) (k : Nat) (x : St) : Rl := fun i => if i.val = k then x else r i
/-- the rows below n of the one, the others of the other -/
def part (n : Nat) (f g : Rl) : Rl := fun i => if i.val < n then f i else g i
theorem part_zero (f g : Rl) : part 0 f g = g := by funext i; simp [part]
theorem part_full (f g : Rl) : part 32 f g = f := by funext i; simp [part, i.isLt]
theorem part_step (f g : Rl) (k : Nat) (x : St) (hx : k < 32 → x = row f k) : upd (part k f g) k x = part (k + 1) f g := by
  funext i
  unfold upd part
  by_cases h : i.val = k
  · have hk : k < 32 := by omega
    rw [if_pos h, if_pos (by omega), hx hk, ← h, row_fin]
  · rw [if_neg h]
    by_cases h2 : i.val < k
    · rw [if_pos h2, if_pos (by omega)]
    · rw [if_neg h2, if_neg (by omega)]
theorem row_part_ge (f g : Rl) (k n : Nat) (h : n ≤ k) : row (part n f g) k = row g k := by
  unfold row part; split
  · simp; omega
  · rfl
theorem row_part_lt (f g : Rl) (k n : Nat) (h : k < n) : row (part n f g) k = row f k := by
  simp [row, part, h]
theorem row_upd_same (r : Rl) (k : Nat) (x : St) (h : k < 32) : row (upd r k x) k = x := by unfold row upd; simp [h]
theorem row_upd_other (r : Rl) (k j : Nat) (x : St) (h : j ≠ k) : row (upd r k x) j = row r j := by unfold row upd; simp [h]
theorem upd_row (r : Rl) (k : Nat) : upd r k (row r k) = r := by
  funext i; unfold upd; by_cases h : i.val = k
  · rw [if_pos h, ← h, row_fin]
  · rw [if_neg h]

/-- one cell of a set -/
abbrev V (x : St) : Value := .int .u32 (U x)
/-- the cells of a relation -/
def cells (r : Rl) : Array Value := Array.ofFn (fun i : Fin 32 => Value.int .u32 (U (r i)))
theorem cells_size (r : Rl) : (cells r).size = 32 := by unfold cells; simp
theorem cells_at (r : Rl) (k : Nat) (h : k < 32) : (cells r)[k]? = some (Value.int .u32 (U (row r k))) := by
  unfold cells; rw [row_of r h]; simp [h]
theorem cells_set (r : Rl) (k : Nat) (x : St) : (cells r).setIfInBounds k (Value.int .u32 (U x)) = cells (upd r k x) := by
  unfold cells upd
  apply Array.ext
  · simp
  · intro i h1 h2
    simp at h2
    rw [Array.getElem_setIfInBounds (by simpa using h1)]
    simp
    by_cases h : k = i
    · simp [h]
    · have : ¬ i = k := fun e => h e.symm
      simp [h, this]
theorem cells_one (r : Rl) : (cells r).all (·.oneCell') = true := by
  rw [Array.all_eq_true]; intro i hi
  have h32 : i < 32 := by simpa [cells_size] using hi
  obtain ⟨_, h⟩ := Array.getElem?_eq_some_iff.1 (cells_at r i h32)
  rw [h]; rfl
theorem cells_inj {r s : Rl} (h : cells r = cells s) : r = s := by
  funext i
  have h1 := cells_at r i.val i.isLt
  have h2 := cells_at s i.val i.isLt
  rw [h, h2] at h1
  simp at h1
  rw [row_fin, row_fin] at h1
  exact (U_inj h1).symm
/-- all events -/
def allS : St := 4294967295#32
theorem U_all : U allS = 4294967295 := by decide
/-- no pair -/
def nil : Rl := fun _ => 0#32
theorem cells_nil : Array.replicate 32 (Value.int .u32 0) = cells nil := by
  unfold cells nil
  apply Array.ext
  · simp
  · intro i h1 h2; simp [U_zero]

end Go.Proofs.Ytlbccddhcbcpoaa
