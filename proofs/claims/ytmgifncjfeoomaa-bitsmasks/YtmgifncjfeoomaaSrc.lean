/- One law for an append of a slice of integers, nil or not, to a row of the call's own; and what such a row reads as. -/
import Derived.Test.YtmgifncjfeoomaaLists
import Derived.Laws.AppendOwnNone
import Derived.OwnWalk
import Derived.Below
namespace Go.Proofs.Ytmgifncjfeoomaa
open Go.RowKit

theorem wpList_append_src {P : Program} (w : World) {ops : Array Oper} {rest : List Oper} {o : Oper} {a : Act} {Q : Exit → Act → World → Prop} (hgd : o.guard = none) (s x : Operand) (t : TypeId)
    (ho : o.op = .call { callee := .builtin .append, args := #[s, x], argTypes := #[t, t] })
    (base : Nat) (e : TypeId) (i : TypeInfo) (z : Value) (size bytes : Nat) (ht : P.underlying t = some (.slice e)) (hi : P.info? e = some i) (hz : i.zero = some z)
    (hsize : i.size = size) (hby : i.bytes = bytes) (hzs : z.cells.size = size) (hsz : 0 < size)
    (v : Value) (n : Nat) (xs : List Value) (hs : a.eval s = v) (hown : w.ownsRow base e size v n xs)
    (ad : Option Addr) (m c : Nat) (news : List Value) (hx : a.eval x = .slice ad m c) (hl : news.length = m * size)
    (hsrc : (ad = none ∧ m = 0 ∧ c = 0) ∨ ∃ x, ad = some x ∧ ∀ j u, news[j]? = some u → w.cell? (x.add j) = some u) (h1 : ∀ u ∈ news, u.oneCell' = true)
    (h63 : n + m ≤ maxLen) (hbytes : (n + m) * bytes ≤ 140737488355328) (hbase : base ≤ w.heap.size)
    (h : ∀ v' w', w'.ownsRow base e size v' (n + m) (xs ++ news) → w.grownBy w' v.ownBlock → wpList P ops Q rest (a.put o.dst v') w') : wpList P ops Q (o :: rest) a w := by
  rcases hsrc with ⟨rfl, rfl, rfl⟩ | ⟨x0, rfl, hnews⟩
  · obtain rfl : news = [] := by simpa using hl
    refine wpList_append_own_none hgd s x t ho base e i size ht hi v n xs hs hown hx ?_
    refine h v w (by simpa using hown) ⟨rfl, rfl, rfl, Nat.le_refl _, fun _ _ _ => rfl⟩
  · exact wpList_append_own w hgd s x t ho base e i z size bytes ht hi hz hsize hby hzs hsz v n xs hs hown x0 m c news hx hl hnews h1 h63 hbytes hbase fun v' w' h2 h3 _ => h v' w' h2 h3

theorem info3 : (Try.prog.info? 3).map (fun i => (i.zero, i.size, i.bytes)) = some (some (.int .i64 0), 1, 8) := by kernel_rfl
def ints (ms : List (BitVec 64)) : List Value := ms.map fun m => Value.int .i64 (I m)
theorem ints_one (ms : List (BitVec 64)) : ∀ u ∈ ints ms, u.oneCell' = true := by
  intro u hu; obtain ⟨_, _, rfl⟩ := List.mem_map.1 hu; rfl
theorem src_of {w : World} {a : Option Addr} {len cap : Nat} {ms : List (BitVec 64)} (hm : MasksAt w a ms) (hl : len = ms.length) (hnil : a = none → len = 0 ∧ cap = 0) :
    (a = none ∧ len = 0 ∧ cap = 0) ∨ ∃ x, a = some x ∧ ∀ j u, (ints ms)[j]? = some u → w.cell? (x.add j) = some u := by
  cases a with
  | none => exact .inl ⟨rfl, hnil rfl⟩
  | some x =>
    refine .inr ⟨x, rfl, ?_⟩
    intro j u hj
    rcases hm with rfl | ⟨b, off, hx, hc⟩
    · simp [ints] at hj
    · obtain rfl : x = ⟨b, off, none⟩ := by simpa using hx
      have hjl : j < ms.length := by
        have := (List.getElem?_eq_some_iff.1 hj).1; simpa [ints] using this
      have e : u = .int .i64 (I (ms.getD j 0#64)) := by
        simp [ints, hjl] at hj; rw [← hj]; simp [hjl]
      rw [e, Go.WideShapes.add_plain]; exact hc j hjl
theorem masksAt_below {w w' : World} {a : Option Addr} {ms : List (BitVec 64)} (hm : MasksAt w a ms) (hb : Below w.heap.size w w') : MasksAt w' a ms := by
  rcases hm with rfl | ⟨b, off, rfl, hc⟩
  · exact .inl rfl
  · refine .inr ⟨b, off, rfl, fun j hj => ?_⟩
    have h := hc j hj
    have hlt := World.block_lt_of_cell? w _ h
    rw [hb.cell (p := ⟨b, off + j, none⟩) hlt]; exact h
theorem row_of {w : World} {base len : Nat} {v : Value} {ms : List (BitVec 64)} (hl : len = ms.length) (h : w.ownsRow base 3 1 v (len + 1) (ints ms ++ [.int .i64 (-77)])) :
    ∃ g cap, v = .slice (some ⟨g, 0, none⟩) (len + 1) cap ∧ len + 1 ≤ cap ∧ cap ≤ maxLen ∧ MasksAt w (some ⟨g, 0, none⟩) ms ∧ w.cell? ⟨g, len, none⟩ = some (.int .i64 (-77)) := by
  obtain ⟨h1, h2⟩ := h
  rcases h2 with ⟨_, hz⟩ | ⟨g, cap, cur, rfl, hb, hg, hcl, hcm, hsz, htk⟩
  · omega
  · have hcell : ∀ j, j < len + 1 → w.cell? ⟨g, j, none⟩ = (ints ms ++ [Value.int .i64 (-77)])[j]? := by
      intro j hj
      rw [← htk]
      simp only [World.cell?, hg]
      simp [hj]
    refine ⟨g, cap, rfl, hcl, hcm, ?_, ?_⟩
    · refine .inr ⟨g, 0, rfl, fun j hj => ?_⟩
      rw [Nat.zero_add, hcell j (by omega), List.getElem?_append_left (by simpa [ints] using hj)]
      simp [ints, hj]
    · rw [hcell len (by omega), List.getElem?_append_right (by simp [ints]; omega)]
      simp [ints, hl]
def uTo (ms : List (BitVec 64)) (k : Nat) : BitVec 64 := unionTo ms k &&& 255#64
theorem uTo_zero (ms : List (BitVec 64)) : uTo ms 0 = 0#64 := by unfold uTo unionTo; simp
theorem uTo_step (ms : List (BitVec 64)) (k : Nat) (h : k < ms.length) : uTo ms (k + 1) = uTo ms k ||| (ms.getD k 0#64 &&& 255#64) := by
  unfold uTo; rw [unionTo_step ms k h]
  apply ext64; intro i hi
  simp only [BitVec.getLsbD_and, BitVec.getLsbD_or]
  cases (unionTo ms k).getLsbD i <;> cases (ms.getD k 0#64).getLsbD i <;> cases (255#64).getLsbD i <;> rfl
end Go.Proofs.Ytmgifncjfeoomaa
