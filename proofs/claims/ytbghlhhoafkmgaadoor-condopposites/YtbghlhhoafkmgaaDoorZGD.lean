/- The law of opposites. -/
import Derived.Test.YtbghlhhoafkmgaaDoorCondJudgesP5
import Derived.Test.YtbghlhhoafkmgaaDoorZMGo2
namespace Go.Proofs.YtbghlhhoafkmgaaDoor
open Go.RowKit
set_option linter.unusedVariables false
set_option linter.unusedSimpArgs false
set_option maxRecDepth 100000
set_option linter.unusedSectionVars false
set_option maxHeartbeats 40000000
set_option simprocs false
def vd (h w : Bool) (f : O) (n : Int) : List SV := [.bool h, .bool w, .int .i64 (f 0), .int .i64 (f 1), .int .i64 (f 2), .int .i64 (f 3), .int .i64 (f 4), .int .i64 (f 5), .int .i64 (f 6), .int .i64 (f 7), .int .i64 (f 8), .int .i64 (f 9), .int .i64 (f 10), .int .i64 (f 11), .int .i64 (f 12), .int .i64 (f 13), .int .i64 (f 14), .int .i64 (f 15), .int .i64 (f 16), .int .i64 (f 17), .int .i64 (f 18), .int .i64 (f 19), .int .i64 (f 20), .int .i64 (f 21), .int .i64 (f 22), .int .i64 (f 23), .int .i64 (f 24), .int .i64 (f 25), .int .i64 (f 26), .int .i64 n]
theorem sy_sayD {n : Nat} {T : List (Nat × SV)} {H : Hp} {ks : List Nat} {G0 : Gr} {w0 : World} {G : Gr} {a : Act} {w : World} (A : Sy n T H ks G0 w0 G a w) (t : Nat) (y : SV) {x : SV} (h : look T t = some x) (e : ∀ G, den G x = den G y) : Sy n ((t, y) :: T) H ks G0 w0 G a w :=
  ⟨A.size, A.defers, fun s z hz => by
    simp only [look] at hz
    cases hc : Nat.beq t s with
    | true => rw [hc] at hz; cases hz; have := Nat.eq_of_beq_eq_true hc; subst this; rw [← e]; exact A.get t _ h
    | false => rw [hc] at hz; exact A.get s z hz, A.mem, A.pre, A.own, A.mix⟩
def anyO (os : List O) (cs : List Cn) : Bool := os.any fun x => evalB x cs
def allO (os : List O) (cs : List Cn) : Bool := os.all fun x => evalB x cs
def fA (os : List O) (cs : List Cn) : O := (jF 1 cs (sortO os)).getD oz
def fB (os : List O) (cs : List Cn) : O := (jF 3 cs (sortO os)).getD oz
def nO (os : List O) : Int := (((sortO os).length : Nat) : Int)
theorem rgo_app (d : List Cn) : ∀ (cs : List Cn) (h : Int), rightGo cs h = true → rightGo (cs ++ d) h = rightGo d 1
  | [], h, hr => by rw [rightGo, beq_iff_eq] at hr; subst hr; rfl
  | c :: cs, h, hr => by
    rw [rightGo] at hr
    rw [List.cons_append, rightGo]
    split at hr
    · cases hr
    · next hc => rw [if_neg hc]; exact rgo_app d cs _ hr
theorem right_go {cs : List Cn} (hr : right cs = true) : rightGo cs 0 = true ∧ 1 ≤ cs.length ∧ cs.length ≤ 32 := by
  unfold right at hr
  split at hr
  · cases hr
  · next h => exact ⟨hr, by omega, by omega⟩
theorem right_nt {cs : List Cn} (hr : right cs = true) (h : cs.length < 32) : right (cs ++ ([⟨3, 0, 0, 0, 0⟩] : List Cn)) = true := by
  obtain ⟨h1, h2, h3⟩ := right_go hr
  unfold right
  rw [if_neg (by simp; omega), rgo_app _ cs 0 h1]
  rfl
theorem fold_one {p : O} {cs : List Cn} (hr : right cs = true) : cs.foldl (fun l c => stepL p c l) [] = [evalB p cs] := by
  have go : ∀ i, i ≤ cs.length → ∃ l, EI p cs l i := by
    intro i
    induction i with
    | zero => exact fun _ => ⟨[], EI.init (by rw [hr]; rfl)⟩
    | succ i ih => exact fun h => by obtain ⟨l, hl⟩ := ih (by omega); exact ⟨_, hl.next (by rw [hr]; rfl) (by omega)⟩
  obtain ⟨l, hl⟩ := go cs.length (Nat.le_refl _)
  have h1 := hl.fin (by omega)
  have h2 := hl.done (by rw [hr]; rfl) (by omega)
  have h3 := hl.eq
  rw [List.take_length] at h3
  rw [← h3, h2]
  match l, h1 with
  | [v], _ => rfl
theorem eval_nt {p : O} {cs : List Cn} (hr : right cs = true) (h : cs.length < 32) : evalB p (cs ++ ([⟨3, 0, 0, 0, 0⟩] : List Cn)) = !(evalB p cs) := by
  have h1 : evalB p (cs ++ ([⟨3, 0, 0, 0, 0⟩] : List Cn)) = ((cs ++ ([⟨3, 0, 0, 0, 0⟩] : List Cn)).foldl (fun l c => stepL p c l) []).getD 0 false := by
    show (if _ then _ else _) = _
    rw [if_pos (right_nt hr h)]
  rw [h1, List.foldl_append, fold_one hr]
  rfl
theorem any_sort {os : List O} (ho : ∀ y ∈ os, Can y) (f : O → Bool) : (sortO os).any f = os.any f := by
  have h := (sortO_srt ho).2
  rw [Bool.eq_iff_iff]
  simp only [List.any_eq_true]
  exact ⟨fun ⟨x, h1, h2⟩ => ⟨x, (h x).1 h1, h2⟩, fun ⟨x, h1, h2⟩ => ⟨x, (h x).2 h1, h2⟩⟩
theorem find_any (l : List O) (f : O → Bool) : (l.find? f).isSome = l.any f := by
  induction l with
  | nil => rfl
  | cons x l ih => rw [List.find?_cons, List.any_cons]; cases f x <;> simp [ih]
section
variable {cs : List Cn} {os : List O} (hr : right cs = true) (ho : ∀ y ∈ os, Can y)
include hr ho
theorem jw1 : (jF 1 cs (sortO os)).isSome = anyO os cs := by
  unfold jF
  rw [find_any, any_sort ho]
  show (os.any fun p => evalB p cs == true) = _
  unfold anyO
  congr 1; funext p; cases evalB p cs <;> rfl
theorem jw3 : (jF 3 cs (sortO os)).isSome = !(allO os cs) := by
  unfold jF
  rw [find_any, any_sort ho]
  show (os.any fun p => evalB p cs == false) = _
  unfold allO
  rw [List.not_all_eq_any_not]
  congr 1; funext p; cases evalB p cs <;> rfl
theorem o1 : jH 1 cs os = anyO os cs ∧ jW 1 cs os = anyO os cs ∧ jO 1 cs os = fA os cs ∧ jN 1 cs os = nO os ∧ jE 1 cs = 0 := by
  have hk : jOK 1 cs = true := by unfold jOK; rw [hr]; rfl
  have hw : jW 1 cs os = anyO os cs := by unfold jW; rw [hk, jw1 hr ho]; rfl
  exact ⟨by unfold jH; rw [hk, hw]; cases anyO os cs <;> rfl, hw, by unfold jO; rw [if_pos hk]; rfl, by unfold jN; rw [if_pos hk]; rfl, by unfold jE; rw [if_neg (by decide), if_pos hr]⟩
theorem o2 : jH 2 cs os = (!(anyO os cs)) ∧ jW 2 cs os = anyO os cs ∧ jO 2 cs os = fA os cs ∧ jN 2 cs os = nO os ∧ jE 2 cs = 0 := by
  have hk : jOK 2 cs = true := by unfold jOK; rw [hr]; rfl
  have hw : jW 2 cs os = anyO os cs := by unfold jW; rw [hk, show jF 2 cs (sortO os) = jF 1 cs (sortO os) from rfl, jw1 hr ho]; rfl
  exact ⟨by unfold jH; rw [hk, hw]; cases anyO os cs <;> rfl, hw, by unfold jO; rw [if_pos hk]; rfl, by unfold jN; rw [if_pos hk]; rfl, by unfold jE; rw [if_neg (by decide), if_pos hr]⟩
theorem o3 : jH 3 cs os = allO os cs ∧ jW 3 cs os = (!(allO os cs)) ∧ jO 3 cs os = fB os cs ∧ jN 3 cs os = nO os ∧ jE 3 cs = 0 := by
  have hk : jOK 3 cs = true := by unfold jOK; rw [hr]; rfl
  have hw : jW 3 cs os = (!(allO os cs)) := by unfold jW; rw [hk, jw3 hr ho]; rfl
  exact ⟨by unfold jH; rw [hk, hw]; cases allO os cs <;> rfl, hw, by unfold jO; rw [if_pos hk]; rfl, by unfold jN; rw [if_pos hk]; rfl, by unfold jE; rw [if_neg (by decide), if_pos hr]⟩
theorem o4 (h32 : cs.length < 32) : jH 2 (cs ++ ([⟨3, 0, 0, 0, 0⟩] : List Cn)) os = allO os cs ∧ jW 2 (cs ++ ([⟨3, 0, 0, 0, 0⟩] : List Cn)) os = (!(allO os cs)) ∧ jO 2 (cs ++ ([⟨3, 0, 0, 0, 0⟩] : List Cn)) os = fB os cs ∧ jN 2 (cs ++ ([⟨3, 0, 0, 0, 0⟩] : List Cn)) os = nO os ∧ jE 2 (cs ++ ([⟨3, 0, 0, 0, 0⟩] : List Cn)) = 0 := by
  have hn := right_nt hr h32
  have hk : jOK 2 (cs ++ ([⟨3, 0, 0, 0, 0⟩] : List Cn)) = true := by unfold jOK; rw [hn]; rfl
  have hf : jF 2 (cs ++ ([⟨3, 0, 0, 0, 0⟩] : List Cn)) (sortO os) = jF 3 cs (sortO os) := by
    unfold jF
    congr 1; funext p
    rw [eval_nt hr h32]; cases evalB p cs <;> rfl
  have hw : jW 2 (cs ++ ([⟨3, 0, 0, 0, 0⟩] : List Cn)) os = (!(allO os cs)) := by unfold jW; rw [hk, hf, jw3 hr ho]; rfl
  exact ⟨by unfold jH; rw [hk, hw]; cases allO os cs <;> rfl, hw, by unfold jO; rw [if_pos hk, hf]; rfl, by unfold jN; rw [if_pos hk]; rfl, by unfold jE; rw [if_neg (by decide), if_pos hn]⟩
end
structure OI (os : List O) (cs : List Cn) (sm al : Bool) (i : Nat) : Prop where
  le : i ≤ os.length
  s : sm = (os.take i).any fun x => evalB x cs
  a : al = (os.take i).all fun x => evalB x cs
section
variable {os : List O} {cs : List Cn} {sm al : Bool} {i : Nat}
theorem OI.i0 : OI os cs false true 0 := ⟨Nat.zero_le _, by simp, by simp⟩
theorem OI.nx (hI : OI os cs sm al i) (h : (i : Int) < ((os.length : Nat) : Int)) : OI os cs (sm || evalB (os.getD ((i : Int)).toNat oz) cs) (al && evalB (os.getD ((i : Int)).toNat oz) cs) (i + 1) := by
  have hi : i < os.length := by omega
  have e : os.getD ((i : Int)).toNat oz = os[i] := by simp [List.getD, hi]
  refine ⟨hi, ?_, ?_⟩
  · rw [List.take_succ_eq_append_getElem hi, List.any_append, ← hI.s, e]; simp
  · rw [List.take_succ_eq_append_getElem hi, List.all_append, ← hI.a, e]; simp
theorem OI.fi (hI : OI os cs sm al i) (h : ¬ (i : Int) < ((os.length : Nat) : Int)) : sm = anyO os cs ∧ al = allO os cs := by
  refine ⟨?_, ?_⟩
  · rw [hI.s, List.take_of_length_le (by omega)]; rfl
  · rw [hI.a, List.take_of_length_le (by omega)]; rfl
end
theorem prightF_ (cs : List Cn) (c : Nat) : Fn Tryd.prog 10 [.sl 0 cs.length c] [some (.lst 5 cs.length (fun zz => cc (cs.getD zz Cn.z)))] (Rt (.bool (right cs)) [some (.lst 5 cs.length (fun zz => cc (cs.getD zz Cn.z)))]) := fn_asX (pright_ cs cs.length c (Nat.le_refl _)) fun _ => by rw [List.take_length]
theorem pevalF_ (p : O) (cs : List Cn) (c : Nat) (hN : cs.length ≤ 1000000) : Fn Tryd.prog 11 [.agg (oc p), .sl 0 cs.length c] [some (.lst 5 cs.length (fun zz => cc (cs.getD zz Cn.z)))] (Rt (.bool (evalB p cs)) [some (.lst 5 cs.length (fun zz => cc (cs.getD zz Cn.z)))]) := fn_asX (peval_ p cs cs.length c (Nat.le_refl _) hN) fun _ => by rw [List.take_length]
theorem judge1_ (cs : List Cn) (c : Nat) (os : List O) (c2 : Nat) (hr : right cs = true) (h32 : cs.length < 32) (hs : os.length ≤ 1000000) (ho : ∀ y ∈ os, Can y) : Fn Tryd.prog 21 [.int .i64 1, .sl 0 cs.length c, .sl 1 os.length c2] [some (.lst 5 cs.length (fun zz => cc (cs.getD zz Cn.z))), some (.lst 27 os.length (fun zz => oc (os.getD zz oz)))] (Rt (.tup [.agg (vd (anyO os cs) (anyO os cs) (fA os cs) (nO os)), .int .i64 0]) [some (.lst 5 cs.length (fun zz => cc (cs.getD zz Cn.z))), some (.lst 27 os.length (fun zz => oc (os.getD zz oz)))]) :=
  fn_asX (pjudgeF_ 1 cs c os c2 (by (try simp); omega) hs ho) fun _ => by
    obtain ⟨e1, e2, e3, e4, e5⟩ := o1 hr ho
    rw [e1, e2, e3, e4, e5]
    rfl
theorem judge2_ (cs : List Cn) (c : Nat) (os : List O) (c2 : Nat) (hr : right cs = true) (h32 : cs.length < 32) (hs : os.length ≤ 1000000) (ho : ∀ y ∈ os, Can y) : Fn Tryd.prog 21 [.int .i64 2, .sl 0 cs.length c, .sl 1 os.length c2] [some (.lst 5 cs.length (fun zz => cc (cs.getD zz Cn.z))), some (.lst 27 os.length (fun zz => oc (os.getD zz oz)))] (Rt (.tup [.agg (vd (!(anyO os cs)) (anyO os cs) (fA os cs) (nO os)), .int .i64 0]) [some (.lst 5 cs.length (fun zz => cc (cs.getD zz Cn.z))), some (.lst 27 os.length (fun zz => oc (os.getD zz oz)))]) :=
  fn_asX (pjudgeF_ 2 cs c os c2 (by (try simp); omega) hs ho) fun _ => by
    obtain ⟨e1, e2, e3, e4, e5⟩ := o2 hr ho
    rw [e1, e2, e3, e4, e5]
    rfl
theorem judge3_ (cs : List Cn) (c : Nat) (os : List O) (c2 : Nat) (hr : right cs = true) (h32 : cs.length < 32) (hs : os.length ≤ 1000000) (ho : ∀ y ∈ os, Can y) : Fn Tryd.prog 21 [.int .i64 3, .sl 0 cs.length c, .sl 1 os.length c2] [some (.lst 5 cs.length (fun zz => cc (cs.getD zz Cn.z))), some (.lst 27 os.length (fun zz => oc (os.getD zz oz)))] (Rt (.tup [.agg (vd (allO os cs) (!(allO os cs)) (fB os cs) (nO os)), .int .i64 0]) [some (.lst 5 cs.length (fun zz => cc (cs.getD zz Cn.z))), some (.lst 27 os.length (fun zz => oc (os.getD zz oz)))]) :=
  fn_asX (pjudgeF_ 3 cs c os c2 (by (try simp); omega) hs ho) fun _ => by
    obtain ⟨e1, e2, e3, e4, e5⟩ := o3 hr ho
    rw [e1, e2, e3, e4, e5]
    rfl
theorem judge4_ (cs : List Cn) (c : Nat) (os : List O) (c2 : Nat) (hr : right cs = true) (h32 : cs.length < 32) (hs : os.length ≤ 1000000) (ho : ∀ y ∈ os, Can y) : Fn Tryd.prog 21 [.int .i64 2, .sl 0 (cs ++ ([⟨3, 0, 0, 0, 0⟩] : List Cn)).length c, .sl 1 os.length c2] [some (.lst 5 ((cs ++ ([⟨3, 0, 0, 0, 0⟩] : List Cn)).length) (fun zz => cc ((cs ++ ([⟨3, 0, 0, 0, 0⟩] : List Cn)).getD zz Cn.z))), some (.lst 27 os.length (fun zz => oc (os.getD zz oz)))] (Rt (.tup [.agg (vd (allO os cs) (!(allO os cs)) (fB os cs) (nO os)), .int .i64 0]) [some (.lst 5 ((cs ++ ([⟨3, 0, 0, 0, 0⟩] : List Cn)).length) (fun zz => cc ((cs ++ ([⟨3, 0, 0, 0, 0⟩] : List Cn)).getD zz Cn.z))), some (.lst 27 os.length (fun zz => oc (os.getD zz oz)))]) :=
  fn_asX (pjudgeF_ 2 (cs ++ ([⟨3, 0, 0, 0, 0⟩] : List Cn)) c os c2 (by (try simp); omega) hs ho) fun _ => by
    obtain ⟨e1, e2, e3, e4, e5⟩ := o4 hr ho h32
    rw [e1, e2, e3, e4, e5]
    rfl
theorem opposites_ (cs : List Cn) (c : Nat) (os : List O) (c2 : Nat) (b : Nat) (o : Obj) (hT : ∀ w : World, w.heap[b]? = some o → Lib.TabIs Tryd.prog w "internal/strconv.uint64pow10" .u64 Lib.pow10Tab) (ho : ∀ y ∈ os, Can y) : Fn Tryd.prog 7 [.sl 0 cs.length c, .sl 1 os.length c2] [some (.lst 5 cs.length (fun zz => cc (cs.getD zz Cn.z))), some (.lst 27 os.length (fun zz => oc (os.getD zz oz))), some (.fac b o)] (Rt (.tt) [some (.lst 5 cs.length (fun zz => cc (cs.getD zz Cn.z))), some (.lst 27 os.length (fun zz => oc (os.getD zz oz))), some (.fac b o)]) :=
 enterM (n := 140) (by kernel_rfl) Tryd.func7 rfl rfl rfl fun G w a h0 A => N2 hX 8 A rfl rfl fun A => CALL1 [2] (able_ b o hT) A rfl rfl rfl rfl rfl rfl rfl fun A => N2 hX 13 A rfl rfl fun A => forkD 23 A rfl
  (fun h1 A => N2 hX 20 A rfl rfl fun A => RETN hX A rfl rfl rfl h0 rfl rfl rfl rfl rfl rfl)
  (fun h1 A => N2 hX 5 A rfl rfl fun A => forkD 28 A rfl
   (fun h2 A => N2 hX 15 A rfl rfl fun A => RETN hX A rfl rfl rfl h0 rfl rfl rfl rfl rfl rfl)
   (fun h2 A => N2 hX 2 A rfl rfl fun A => APPL hX (cs.length) (fun zz => cc (cs.getD zz Cn.z)) A rfl rfl rfl rfl (Nat.le_refl _) (by (try simp only [Bool.or_eq_false_iff, decide_eq_false_iff_not] at h1); (try simp only [List.length_append, List.length_cons, List.length_nil]); omega) (by (try simp only [Bool.or_eq_false_iff, decide_eq_false_iff_not] at h1); (try simp only [List.length_append, List.length_cons, List.length_nil]); omega) (by rw [Nat.zero_add]) (fun k hk => by omega) (fun k hk => by show cc _ = cc _; rw [Nat.zero_add]) (fun z => ⟨_, rfl, rfl⟩) (fun k hk => ⟨_, rfl, okE_nil⟩) fun A => have A := A.freeze 4 rfl; CALL1 [4] (prightF_ cs 0) A rfl rfl rfl rfl rfl rfl rfl fun A => N2 hX 4 A rfl rfl fun A => fork 34 A rfl
    (fun h3 A => N2 hX 7 A rfl rfl fun A => RETN hX A rfl rfl rfl h0 rfl rfl rfl rfl rfl rfl)
    (fun h3 A => N2 hX 4 A rfl rfl fun A => have A : Sy _ [(0, .sl 0 cs.length c), (1, .sl 1 os.length c2), (4, .ff)] [some (.lst 5 cs.length (fun zz => cc (cs.getD zz Cn.z))), some (.lst 27 os.length (fun zz => oc (os.getD zz oz))), some (.fac b o)] _ _ _ _ _ _ := (A.cut [0, 1, 4] rfl).mv 3 [] rfl rfl rfl rfl (by simp only [List.length_cons, List.length_nil] at h0; omega); N2 hX 3 A rfl rfl fun A => APPL hX (cs.length) (fun zz => cc (cs.getD zz Cn.z)) A rfl rfl rfl rfl (Nat.le_refl _) (by (try simp only [Bool.or_eq_false_iff, decide_eq_false_iff_not] at h1); (try simp only [List.length_append, List.length_cons, List.length_nil]); omega) (by (try simp only [Bool.or_eq_false_iff, decide_eq_false_iff_not] at h1); (try simp only [List.length_append, List.length_cons, List.length_nil]); omega) (by rw [Nat.zero_add]) (fun k hk => by omega) (fun k hk => by show cc _ = cc _; rw [Nat.zero_add]) (fun z => ⟨_, rfl, rfl⟩) (fun k hk => ⟨_, rfl, okE_nil⟩) fun A => N2 hX 2 A rfl rfl fun A => have A := A.asT Cn.z cc 5 tyC.1 tyC.2.1 tyC.2.2 ([⟨3, 0, 0, 0, 0⟩] : List Cn) 5 rfl; APPL hX ((cs ++ ([⟨3, 0, 0, 0, 0⟩] : List Cn)).length) (fun zz => cc ((cs ++ ([⟨3, 0, 0, 0, 0⟩] : List Cn)).getD zz Cn.z)) A rfl rfl rfl rfl (Nat.le_refl _) (by (try simp only [Bool.or_eq_false_iff, decide_eq_false_iff_not] at h1); (try simp only [List.length_append, List.length_cons, List.length_nil]); omega) (by (try simp only [Bool.or_eq_false_iff, decide_eq_false_iff_not] at h1); (try simp only [List.length_append, List.length_cons, List.length_nil]); omega) List.length_append (fun k hk => by show cc _ = cc _; rw [getD_app_l hk]) (fun k hk => by show cc _ = cc _; rw [getD_app_r]) (fun z => ⟨_, rfl, rfl⟩) (fun k hk => ⟨_, rfl, okE_nil⟩) fun A => N2 hX 4 A rfl rfl fun A => have A : Sy _ [(0, .sl 0 cs.length c), (1, .sl 1 os.length c2), (4, .ff), (5, .sl 3 ((cs ++ ([⟨3, 0, 0, 0, 0⟩] : List Cn)).length) 0)] [some (.lst 5 cs.length (fun zz => cc (cs.getD zz Cn.z))), some (.lst 27 os.length (fun zz => oc (os.getD zz oz))), some (.fac b o), some (.row 30 5 ((cs ++ ([⟨3, 0, 0, 0, 0⟩] : List Cn)).length) 0 (fun zz => cc ((cs ++ ([⟨3, 0, 0, 0, 0⟩] : List Cn)).getD zz Cn.z)))] _ _ _ _ _ _ := (A.cut [0, 1, 4, 5] rfl).mv 3 [6] rfl rfl rfl rfl (by simp only [List.length_cons, List.length_nil] at h0; omega); N2 hX 3 A rfl rfl fun A => APPL hX (cs.length) (fun zz => cc (cs.getD zz Cn.z)) A rfl rfl rfl rfl (Nat.le_refl _) (by (try simp only [Bool.or_eq_false_iff, decide_eq_false_iff_not] at h1); (try simp only [List.length_append, List.length_cons, List.length_nil]); omega) (by (try simp only [Bool.or_eq_false_iff, decide_eq_false_iff_not] at h1); (try simp only [List.length_append, List.length_cons, List.length_nil]); omega) (by rw [Nat.zero_add]) (fun k hk => by omega) (fun k hk => by show cc _ = cc _; rw [Nat.zero_add]) (fun z => ⟨_, rfl, rfl⟩) (fun k hk => ⟨_, rfl, okE_nil⟩) fun A => N2 hX 2 A rfl rfl fun A => APPL hX (os.length) (fun zz => oc (os.getD zz oz)) A rfl rfl rfl rfl (Nat.le_refl _) (by (try simp only [Bool.or_eq_false_iff, decide_eq_false_iff_not] at h1); (try simp only [List.length_append, List.length_cons, List.length_nil]); omega) (by (try simp only [Bool.or_eq_false_iff, decide_eq_false_iff_not] at h1); (try simp only [List.length_append, List.length_cons, List.length_nil]); omega) (by rw [Nat.zero_add]) (fun k hk => by omega) (fun k hk => by show oc _ = oc _; rw [Nat.zero_add]) (fun z => ⟨_, rfl, rfl⟩) (fun k hk => ⟨_, rfl, okE_nil⟩) fun A => have A := A.freeze 5 rfl; have A := A.freeze 7 rfl; CALL1 [5, 7] (judge1_ cs 0 os 0 (right_of h3) (by (try simp only [Bool.or_eq_false_iff, decide_eq_false_iff_not] at h1); (try simp only [List.length_append, List.length_cons, List.length_nil]); omega) (by (try simp only [Bool.or_eq_false_iff, decide_eq_false_iff_not] at h1); (try simp only [List.length_append, List.length_cons, List.length_nil]); omega) ho) A rfl rfl rfl rfl rfl rfl rfl fun A => N2 hX 9 A rfl rfl fun A => have A : Sy _ [(0, .sl 0 cs.length c), (1, .sl 1 os.length c2), (4, .ff), (5, .sl 3 ((cs ++ ([⟨3, 0, 0, 0, 0⟩] : List Cn)).length) 0), (6, .ptr 4 0)] [some (.lst 5 cs.length (fun zz => cc (cs.getD zz Cn.z))), some (.lst 27 os.length (fun zz => oc (os.getD zz oz))), some (.fac b o), some (.row 30 5 ((cs ++ ([⟨3, 0, 0, 0, 0⟩] : List Cn)).length) 0 (fun zz => cc ((cs ++ ([⟨3, 0, 0, 0, 0⟩] : List Cn)).getD zz Cn.z))), some (.blk (vd (anyO os cs) (anyO os cs) (fA os cs) (nO os)))] _ _ _ _ _ _ := (A.cut [0, 1, 4, 5, 6] rfl).mv 3 [3, 8] rfl rfl rfl rfl (by simp only [List.length_cons, List.length_nil] at h0; omega); N2 hX 3 A rfl rfl fun A => APPL hX (cs.length) (fun zz => cc (cs.getD zz Cn.z)) A rfl rfl rfl rfl (Nat.le_refl _) (by (try simp only [Bool.or_eq_false_iff, decide_eq_false_iff_not] at h1); (try simp only [List.length_append, List.length_cons, List.length_nil]); omega) (by (try simp only [Bool.or_eq_false_iff, decide_eq_false_iff_not] at h1); (try simp only [List.length_append, List.length_cons, List.length_nil]); omega) (by rw [Nat.zero_add]) (fun k hk => by omega) (fun k hk => by show cc _ = cc _; rw [Nat.zero_add]) (fun z => ⟨_, rfl, rfl⟩) (fun k hk => ⟨_, rfl, okE_nil⟩) fun A => N2 hX 2 A rfl rfl fun A => APPL hX (os.length) (fun zz => oc (os.getD zz oz)) A rfl rfl rfl rfl (Nat.le_refl _) (by (try simp only [Bool.or_eq_false_iff, decide_eq_false_iff_not] at h1); (try simp only [List.length_append, List.length_cons, List.length_nil]); omega) (by (try simp only [Bool.or_eq_false_iff, decide_eq_false_iff_not] at h1); (try simp only [List.length_append, List.length_cons, List.length_nil]); omega) (by rw [Nat.zero_add]) (fun k hk => by omega) (fun k hk => by show oc _ = oc _; rw [Nat.zero_add]) (fun z => ⟨_, rfl, rfl⟩) (fun k hk => ⟨_, rfl, okE_nil⟩) fun A => have A := A.freeze 6 rfl; have A := A.freeze 8 rfl; CALL1 [6, 8] (judge2_ cs 0 os 0 (right_of h3) (by (try simp only [Bool.or_eq_false_iff, decide_eq_false_iff_not] at h1); (try simp only [List.length_append, List.length_cons, List.length_nil]); omega) (by (try simp only [Bool.or_eq_false_iff, decide_eq_false_iff_not] at h1); (try simp only [List.length_append, List.length_cons, List.length_nil]); omega) ho) A rfl rfl rfl rfl rfl rfl rfl fun A => N2 hX 9 A rfl rfl fun A => have A : Sy _ [(0, .sl 0 cs.length c), (1, .sl 1 os.length c2), (4, .ff), (5, .sl 3 ((cs ++ ([⟨3, 0, 0, 0, 0⟩] : List Cn)).length) 0), (6, .ptr 4 0), (8, .ptr 5 0)] [some (.lst 5 cs.length (fun zz => cc (cs.getD zz Cn.z))), some (.lst 27 os.length (fun zz => oc (os.getD zz oz))), some (.fac b o), some (.row 30 5 ((cs ++ ([⟨3, 0, 0, 0, 0⟩] : List Cn)).length) 0 (fun zz => cc ((cs ++ ([⟨3, 0, 0, 0, 0⟩] : List Cn)).getD zz Cn.z))), some (.blk (vd (anyO os cs) (anyO os cs) (fA os cs) (nO os))), some (.blk (vd (!(anyO os cs)) (anyO os cs) (fA os cs) (nO os)))] _ _ _ _ _ _ := (A.cut [0, 1, 4, 5, 6, 8] rfl).mv 3 [3, 4, 9] rfl rfl rfl rfl (by simp only [List.length_cons, List.length_nil] at h0; omega); N2 hX 3 A rfl rfl fun A => APPL hX (cs.length) (fun zz => cc (cs.getD zz Cn.z)) A rfl rfl rfl rfl (Nat.le_refl _) (by (try simp only [Bool.or_eq_false_iff, decide_eq_false_iff_not] at h1); (try simp only [List.length_append, List.length_cons, List.length_nil]); omega) (by (try simp only [Bool.or_eq_false_iff, decide_eq_false_iff_not] at h1); (try simp only [List.length_append, List.length_cons, List.length_nil]); omega) (by rw [Nat.zero_add]) (fun k hk => by omega) (fun k hk => by show cc _ = cc _; rw [Nat.zero_add]) (fun z => ⟨_, rfl, rfl⟩) (fun k hk => ⟨_, rfl, okE_nil⟩) fun A => N2 hX 2 A rfl rfl fun A => APPL hX (os.length) (fun zz => oc (os.getD zz oz)) A rfl rfl rfl rfl (Nat.le_refl _) (by (try simp only [Bool.or_eq_false_iff, decide_eq_false_iff_not] at h1); (try simp only [List.length_append, List.length_cons, List.length_nil]); omega) (by (try simp only [Bool.or_eq_false_iff, decide_eq_false_iff_not] at h1); (try simp only [List.length_append, List.length_cons, List.length_nil]); omega) (by rw [Nat.zero_add]) (fun k hk => by omega) (fun k hk => by show oc _ = oc _; rw [Nat.zero_add]) (fun z => ⟨_, rfl, rfl⟩) (fun k hk => ⟨_, rfl, okE_nil⟩) fun A => have A := A.freeze 7 rfl; have A := A.freeze 9 rfl; CALL1 [7, 9] (judge3_ cs 0 os 0 (right_of h3) (by (try simp only [Bool.or_eq_false_iff, decide_eq_false_iff_not] at h1); (try simp only [List.length_append, List.length_cons, List.length_nil]); omega) (by (try simp only [Bool.or_eq_false_iff, decide_eq_false_iff_not] at h1); (try simp only [List.length_append, List.length_cons, List.length_nil]); omega) ho) A rfl rfl rfl rfl rfl rfl rfl fun A => N2 hX 9 A rfl rfl fun A => have A : Sy _ [(0, .sl 0 cs.length c), (1, .sl 1 os.length c2), (4, .ff), (5, .sl 3 ((cs ++ ([⟨3, 0, 0, 0, 0⟩] : List Cn)).length) 0), (6, .ptr 4 0), (8, .ptr 5 0), (10, .ptr 6 0)] [some (.lst 5 cs.length (fun zz => cc (cs.getD zz Cn.z))), some (.lst 27 os.length (fun zz => oc (os.getD zz oz))), some (.fac b o), some (.row 30 5 ((cs ++ ([⟨3, 0, 0, 0, 0⟩] : List Cn)).length) 0 (fun zz => cc ((cs ++ ([⟨3, 0, 0, 0, 0⟩] : List Cn)).getD zz Cn.z))), some (.blk (vd (anyO os cs) (anyO os cs) (fA os cs) (nO os))), some (.blk (vd (!(anyO os cs)) (anyO os cs) (fA os cs) (nO os))), some (.blk (vd (allO os cs) (!(allO os cs)) (fB os cs) (nO os)))] _ _ _ _ _ _ := (A.cut [0, 1, 4, 5, 6, 8, 10] rfl).mv 3 [3, 4, 5, 10] rfl rfl rfl rfl (by simp only [List.length_cons, List.length_nil] at h0; omega); N2 hX 4 A rfl rfl fun A => APPL hX (os.length) (fun zz => oc (os.getD zz oz)) A rfl rfl rfl rfl (Nat.le_refl _) (by (try simp only [Bool.or_eq_false_iff, decide_eq_false_iff_not] at h1); (try simp only [List.length_append, List.length_cons, List.length_nil]); omega) (by (try simp only [Bool.or_eq_false_iff, decide_eq_false_iff_not] at h1); (try simp only [List.length_append, List.length_cons, List.length_nil]); omega) (by rw [Nat.zero_add]) (fun k hk => by omega) (fun k hk => by show oc _ = oc _; rw [Nat.zero_add]) (fun z => ⟨_, rfl, rfl⟩) (fun k hk => ⟨_, rfl, okE_nil⟩) fun A => have A := A.freeze 3 rfl; have A := A.freeze 8 rfl; CALL1 [3, 8] (judge4_ cs 0 os 0 (right_of h3) (by (try simp only [Bool.or_eq_false_iff, decide_eq_false_iff_not] at h1); (try simp only [List.length_append, List.length_cons, List.length_nil]); omega) (by (try simp only [Bool.or_eq_false_iff, decide_eq_false_iff_not] at h1); (try simp only [List.length_append, List.length_cons, List.length_nil]); omega) ho) A rfl rfl rfl rfl rfl rfl rfl fun A => N2 hX 10 A rfl rfl fun A => have A : Sy _ [(0, .sl 0 cs.length c), (1, .sl 1 os.length c2), (4, .ff), (6, .ptr 3 0), (8, .ptr 4 0), (10, .ptr 5 0), (12, .ptr 6 0)] [some (.lst 5 cs.length (fun zz => cc (cs.getD zz Cn.z))), some (.lst 27 os.length (fun zz => oc (os.getD zz oz))), some (.fac b o), some (.blk (vd (anyO os cs) (anyO os cs) (fA os cs) (nO os))), some (.blk (vd (!(anyO os cs)) (anyO os cs) (fA os cs) (nO os))), some (.blk (vd (allO os cs) (!(allO os cs)) (fB os cs) (nO os))), some (.blk (vd (allO os cs) (!(allO os cs)) (fB os cs) (nO os)))] _ _ _ _ _ _ := (A.cut [0, 1, 4, 6, 8, 10, 12] rfl).mv 3 [4, 5, 6, 9] rfl rfl rfl rfl (by simp only [List.length_cons, List.length_nil] at h0; omega); N2 hX 6 A rfl rfl fun A => have A := sy_sayD A 83 (.ff) rfl (fun _ => congrArg (fun b => some (Value.bool b)) (show ((anyO os cs) == (!(anyO os cs))) = false by cases anyO os cs <;> rfl)); N2 hX 6 A rfl rfl fun A => have A := sy_sayD A 89 (.ff) rfl (fun _ => congrArg (fun b => some (Value.bool b)) (show (!((anyO os cs) == (anyO os cs))) = false by simp)); N2 hX 7 A rfl rfl fun A => have A := sy_sayD A 96 (.ff) rfl (fun _ => congrArg (fun b => some (Value.bool b)) (show (!(((((fA os cs) 0) == ((fA os cs) 0)) && ((((fA os cs) 1) == ((fA os cs) 1)) && ((((fA os cs) 2) == ((fA os cs) 2)) && ((((fA os cs) 3) == ((fA os cs) 3)) && ((((fA os cs) 4) == ((fA os cs) 4)) && ((((fA os cs) 5) == ((fA os cs) 5)) && ((((fA os cs) 6) == ((fA os cs) 6)) && ((((fA os cs) 7) == ((fA os cs) 7)) && ((((fA os cs) 8) == ((fA os cs) 8)) && ((((fA os cs) 9) == ((fA os cs) 9)) && ((((fA os cs) 10) == ((fA os cs) 10)) && ((((fA os cs) 11) == ((fA os cs) 11)) && ((((fA os cs) 12) == ((fA os cs) 12)) && ((((fA os cs) 13) == ((fA os cs) 13)) && ((((fA os cs) 14) == ((fA os cs) 14)) && ((((fA os cs) 15) == ((fA os cs) 15)) && ((((fA os cs) 16) == ((fA os cs) 16)) && ((((fA os cs) 17) == ((fA os cs) 17)) && ((((fA os cs) 18) == ((fA os cs) 18)) && ((((fA os cs) 19) == ((fA os cs) 19)) && ((((fA os cs) 20) == ((fA os cs) 20)) && ((((fA os cs) 21) == ((fA os cs) 21)) && ((((fA os cs) 22) == ((fA os cs) 22)) && ((((fA os cs) 23) == ((fA os cs) 23)) && ((((fA os cs) 24) == ((fA os cs) 24)) && ((((fA os cs) 25) == ((fA os cs) 25)) && (((fA os cs) 26) == ((fA os cs) 26)))))))))))))))))))))))))))))) = false by simp)); N2 hX 5 A rfl rfl fun A => have A := sy_sayD A 101 (.ff) rfl (fun _ => congrArg (fun b => some (Value.bool b)) (show (!((((allO os cs) == (allO os cs)) && (((!(allO os cs)) == (!(allO os cs))) && ((((fB os cs) 0) == ((fB os cs) 0)) && ((((fB os cs) 1) == ((fB os cs) 1)) && ((((fB os cs) 2) == ((fB os cs) 2)) && ((((fB os cs) 3) == ((fB os cs) 3)) && ((((fB os cs) 4) == ((fB os cs) 4)) && ((((fB os cs) 5) == ((fB os cs) 5)) && ((((fB os cs) 6) == ((fB os cs) 6)) && ((((fB os cs) 7) == ((fB os cs) 7)) && ((((fB os cs) 8) == ((fB os cs) 8)) && ((((fB os cs) 9) == ((fB os cs) 9)) && ((((fB os cs) 10) == ((fB os cs) 10)) && ((((fB os cs) 11) == ((fB os cs) 11)) && ((((fB os cs) 12) == ((fB os cs) 12)) && ((((fB os cs) 13) == ((fB os cs) 13)) && ((((fB os cs) 14) == ((fB os cs) 14)) && ((((fB os cs) 15) == ((fB os cs) 15)) && ((((fB os cs) 16) == ((fB os cs) 16)) && ((((fB os cs) 17) == ((fB os cs) 17)) && ((((fB os cs) 18) == ((fB os cs) 18)) && ((((fB os cs) 19) == ((fB os cs) 19)) && ((((fB os cs) 20) == ((fB os cs) 20)) && ((((fB os cs) 21) == ((fB os cs) 21)) && ((((fB os cs) 22) == ((fB os cs) 22)) && ((((fB os cs) 23) == ((fB os cs) 23)) && ((((fB os cs) 24) == ((fB os cs) 24)) && ((((fB os cs) 25) == ((fB os cs) 25)) && ((((fB os cs) 26) == ((fB os cs) 26)) && ((nO os) == (nO os))))))))))))))))))))))))))))))))) = false by simp)); N2 hX 7 A rfl rfl fun A => have A := sy_sayD A 108 (.ff) rfl (fun _ => congrArg (fun b => some (Value.bool b)) (show (!((anyO os cs) == (anyO os cs))) = false by simp)); N2 hX 7 A rfl rfl fun A => have A : Sy _ [(0, .sl 0 cs.length c), (1, .sl 1 os.length c2), (4, .ff), (6, .ptr 3 0), (10, .ptr 4 0)] [some (.lst 5 cs.length (fun zz => cc (cs.getD zz Cn.z))), some (.lst 27 os.length (fun zz => oc (os.getD zz oz))), some (.fac b o), some (.blk (vd (anyO os cs) (anyO os cs) (fA os cs) (nO os))), some (.blk (vd (allO os cs) (!(allO os cs)) (fB os cs) (nO os)))] _ _ _ _ _ _ := (A.cut [0, 1, 4, 6, 10] rfl).mv 3 [3, 5] rfl rfl rfl rfl (by simp only [List.length_cons, List.length_nil] at h0; omega); N2 hX 12 A rfl rfl fun A => have A := sy_sayD A 14 (.bool false) rfl (fun _ => rfl); have A := sy_sayD A 15 (.bool true) rfl (fun _ => rfl); LOOP3 (fun (sm : Bool) (al : Bool) (i : Nat) => [(0, .sl 0 cs.length c), (1, .sl 1 os.length c2), (4, .ff), (6, .ptr 3 0), (10, .ptr 4 0), (14, .bool sm), (15, .bool al), (16, .int .i64 (i : Int))]) (fun (sm : Bool) (al : Bool) (i : Nat) => [some (.lst 5 cs.length (fun zz => cc (cs.getD zz Cn.z))), some (.lst 27 os.length (fun zz => oc (os.getD zz oz))), some (.fac b o), some (.blk (vd (anyO os cs) (anyO os cs) (fA os cs) (nO os))), some (.blk (vd (allO os cs) (!(allO os cs)) (fB os cs) (nO os)))]) (fun (sm : Bool) (al : Bool) (i : Nat) => OI os cs sm al i) (fun (sm : Bool) (al : Bool) (i : Nat) => os.length - i) false true 0 OI.i0 ((A.cut [0, 1, 4, 6, 10, 14, 15, 16] rfl).trunc 5 rfl rfl rfl (by simp only [List.length_cons, List.length_nil] at h0; omega)) fun sm al i hI {G a w} A => N2 hX 9 A rfl rfl fun A => forkD 113 A rfl
      (fun h4 A => N2 hX 12 A rfl (ok_d (by (try simp only [Bool.or_eq_false_iff, decide_eq_false_iff_not] at h1); (try simp only [List.length_append, List.length_cons, List.length_nil]); omega) <| ok_d (by (try simp only [Bool.or_eq_false_iff, decide_eq_false_iff_not] at h1); (try simp only [List.length_append, List.length_cons, List.length_nil]); omega) <| okE_nil) fun A => CALL1 [0] (pevalF_ (os.getD (((i : Int)).toNat) oz) cs c (by (try simp only [Bool.or_eq_false_iff, decide_eq_false_iff_not] at h1); (try simp only [List.length_append, List.length_cons, List.length_nil]); omega)) A rfl rfl rfl rfl rfl rfl rfl fun A => N2 hX 12 A rfl rfl fun A => N2 hX 9 A rfl rfl fun A => N2 hX 5 A rfl (ok_d (by (try simp only [Bool.or_eq_false_iff, decide_eq_false_iff_not] at h1); (try simp only [List.length_append, List.length_cons, List.length_nil]); omega) <| okE_nil) fun A => ⟨sm || (evalB (os.getD (((i : Int)).toNat) oz) cs), al && (evalB (os.getD (((i : Int)).toNat) oz) cs), i + 1, _, (by omega), (hI.nx h4), ((A.cut [0, 1, 4, 6, 10, 14, 15, 16] rfl).trunc 5 rfl rfl rfl (by simp only [List.length_cons, List.length_nil] at h0; omega))⟩)
      (fun h4 A => N2 hX 19 A rfl rfl fun A => RETN hX A rfl rfl rfl h0 rfl rfl rfl rfl (by have q := hI.fi h4; rw [q.1, q.2]; simp only [beq_self_eq_true, Bool.and_self]; rfl) rfl))))
end Go.Proofs.YtbghlhhoafkmgaaDoor
