import PyProof.Rows.All
import Wide.All
import OpenK.AllK
import Wide.FinOn
import HandS.ForMost
import HandS.Wide
import PySem.Challenge.RW_onlytell_k00_errors_with_any_value
import KE.KDictPairs
import KE.KDictCopyH
import KE.KDictList
import HandS.Exc
import HandS.ExcOwn
import HandS.ExcValue
import HandS.ExcField
import HandS.ExcIs
import HandS.TryMany
import KE.KExcIs
import PyProof.ReprBulk
import HandS.Ends
import HandS.Walk
section
set_option Elab.async false
set_option linter.all false
set_option maxRecDepth 100000
namespace Kzero
open PySem L2
def top (i : Nat) : Stmt := PySem.Challenge.pw_onlytell_k00_errors_with_any_value.main.body.getD i (.Pass ⟨0, 0, 0, 0⟩)
abbrev sPot : Stmt := top 40
abbrev sTake : Stmt := top 41
abbrev sOf : Stmt := top 42
abbrev sValue : Stmt := top 43
abbrev sMade : Stmt := top 44
abbrev sMarks : Stmt := top 45
abbrev sCaught : Stmt := top 46
abbrev sRight : Stmt := top 47
abbrev sLaw : Stmt := top 48
/-- the modulus of the second number of a pot -/
abbrev potM : Int := 2305843009213693921
/-- a pot stands at p: its counter is n -/
def PotAt (H : Hp) (p : Addr) (n : Int) : Prop := ∃ own x : Int, H p = some (.lst [.int own, .int x, .int n]) ∧ 0 ≤ own ∧ 0 ≤ x ∧ x < potM ∧ 0 ≤ n
/-- all but p stands as it stood -/
def But (p : Addr) (H H' : Hp) : Prop := ∀ b o, H b = some o → b ≠ p → H' b = some o
theorem But.refl {p : Addr} {H : Hp} : But p H H := fun _ _ e _ => e
theorem But.trans {p : Addr} {H H' H2 : Hp} (a : But p H H') (b : But p H' H2) : But p H H2 := fun c o e n => b c o (a c o e n) n
theorem But.same {p : Addr} {H H' : Hp} (a : Same H H') : But p H H' := fun c o e _ => a c o e
theorem same_new {H : Hp} {a : Addr} {o : HO} (h : H a = none) : Same H (upd H a o) := fun b u e => by rw [upd_ne (ne_of_none e h)]; exact e
/-- the promises -/
def spPot (K : PySem.W.Frag) : Sp := fun vs H Q _ => ∃ (a : Addr) (ns : List Int) (k : Nat), vs = [.ref a, .int k] ∧ SqL K H a (ns.map V.int) ∧ ns.length ≤ 63 ∧ k < 64 ∧
  ∀ (H' : Hp) (p : Addr), H p = none → PotAt H' p 0 → Same H H' → Q (.ref p) H'
def spTake : Sp := fun vs H Q _ => ∃ (p : Addr) (u n : Int), vs = [.ref p, .int u] ∧ PotAt H p n ∧ 0 < u ∧ u < 1000000 ∧ n ≤ 100000 ∧
  ∀ (r n' : Int) (H' : Hp), 0 ≤ r → r < u → n ≤ n' → n' ≤ n + 1 → PotAt H' p n' → But p H H' → Q (.int r) H'
def spOf : Sp := fun vs H Q _ => ∃ (p l : Addr) (n : Int) (xs : List V), vs = [.ref p, .ref l] ∧ PotAt H p n ∧ H l = some (.lst xs) ∧ l ≠ p ∧ 0 < xs.length ∧ xs.length < 1000 ∧ n ≤ 100000 ∧
  ∀ (v : V) (n' : Int) (H' : Hp), v ∈ xs → n ≤ n' → n' ≤ n + 1 → PotAt H' p n' → But p H H' → Q v H'
/-- what stands for the names of the module -/
structure Txt (mg : Str → Option Value) : Prop where
  len : mg "len" = none
  abs : mg "abs" = none
  int : mg "int" = none
theorem pw_big {X : Cx} : OpR X (binaryOp .Pow) (rI (fun i j => 0 ≤ j ∧ (Builtin.Int.intBits i : Int) * j ≤ 2 ^ 27) fun i j => .int (i ^ j.toNat)) :=
  opI fun _ _ _ _ _ _ _ hc q => PyProof.Rows.pow_int hc.1 hc.2 q
theorem b01 (b : Bool) : -(2 ^ 64 : Int) < (if b = true then 1 else 0) ∧ (if b = true then 1 else 0) < (2 ^ 64 : Int) := by cases b <;> decide
theorem nn01 (b : Bool) : (0 : Int) ≤ (if b = true then 1 else 0) := by cases b <;> decide
section
variable {P : Program} {w : World} {K : PySem.W.Frag} {mg : Str → Option Value} {base : Heap}
theorem scPot : FnScope ["_law_script", "_law_k", "_law_cell", "_law_own"] ["_law_script", "_law_k"] (defScope sPot) := ⟨rfl, rfl, rfl, by decide +kernel, rfl, by decide +kernel, by decide +kernel⟩
/-- abs, as the two ways of it -/
theorem ok_pot {f : Addr} {fd : FuncData} (F : Fun K "_law_pot" "_law_pot" sPot f fd) (T : Txt mg) : FnOk P w K mg base CX0 1 f fd ["_law_script", "_law_k"] (spPot K) := by
  refine F.ok scPot (fun vs H Q E h => ?_) (fun cdv A outer s H vs Q E hr h => ?_)
  · obtain ⟨a, ns, k, rfl, _⟩ := h
    rfl
  · obtain ⟨a, ns, k, rfl, hS, hlen, hk, q⟩ := h
    refine ⟨_, pss_cons (ps_set (i := 2) scPot.nd rfl (Or.inl rfl) (pe_ifExp (pt_cmpR op_lt (pv 1) (pe_callB call_len_seq (by rfl) T.len PySem.boot_len (pa_cons (pv 0) pa_nil)) (nomark _))
        (pe_ix ix_list (pv 0) (pv 1) (fun _ _ => rfl)) (pe_op op_add (pe_op op_mul pe_int (pv 1)) pe_int)))
      (pss_cons (ps_set (i := 3) scPot.nd rfl (Or.inl rfl) (pe_op op_mul
          (pe_op op_mod (pe_callTy call_int1 (by rfl) T.int (by decide +kernel) (pa_cons (pe_callB call_abs (by rfl) T.abs (by decide +kernel) (pa_cons (pv 2) pa_nil)) pa_nil)) (pe_op pw_big (pe_op op_pow pe_int pe_int) pe_int))
          (pe_callTy call_int1 (by rfl) T.int (by decide +kernel) (pa_cons (pe_cmpR op_ge (pe_callB call_abs (by rfl) T.abs (by decide +kernel) (pa_cons (pv 2) pa_nil)) (pe_op op_pow pe_int pe_int) (nomark _)) pa_nil))))
      (pss_one (ps_ret (pe_lst (pa_cons (pv 3) (pa_cons
        (pe_op op_mod (pe_callTy call_int1 (by rfl) T.int (by decide +kernel) (pa_cons (pe_op op_add (pe_op op_add (pe_op op_mul (pe_op op_mod (pe_callTy call_int1 (by rfl) T.int (by decide +kernel) (pa_cons (pv 2) pa_nil)) pe_int) pe_int)
          (pe_op op_mul (pe_op op_mul pe_int (pv 1)) (pv 1))) pe_int) pa_nil)) pe_int) (pa_cons pe_int pa_nil))))))), ?_⟩
    refine ⟨_, rfl, _, rfl, a, _, rfl, Or.inl hS, _, _, rfl, rfl, _, rfl, ?_⟩
    refine ite2 (fun hlt => ?pos) (fun _ => ?neg)
    case' pos =>
      have hk2 : k < ns.length := by
        have hlt := of_decide_eq_true hlt
        rw [List.length_map] at hlt
        omega
      refine ⟨_, rfl, _, rfl, a, _, _, _, rfl, rfl, hS, atI_nat (j := k) (v := V.int ns[k]) (by rw [List.getElem?_map, List.getElem?_eq_getElem hk2]; rfl), ?_⟩
      generalize ns[k] = c
    case' neg =>
      refine ⟨_, rfl, _, _, rfl, rfl, Or.inl ⟨by decide, by decide⟩, _, _, rfl, rfl, ?_⟩
      generalize (43 * (k : Int) + 29) = c
    all_goals
      -- own
      refine ⟨_, rfl, _, rfl, Or.inl ⟨_, rfl, ?_⟩⟩
      refine ⟨_, _, rfl, rfl, ⟨by decide, by decide, by decide⟩, _, _, rfl, rfl, ⟨by decide, by decide +kernel⟩, _, _, rfl, rfl, (by show (0 : Int) < (10 ^ 60) ^ 5; decide +kernel), ?_⟩
      refine ⟨_, rfl, _, rfl, _, _, rfl, rfl, ⟨by decide, by decide, by decide⟩, _, _, rfl, rfl, Or.inr ⟨_, rfl, ?_⟩⟩
      refine ⟨_, _, rfl, rfl, Or.inr (b01 _), ?_⟩
      -- the new list
      refine ⟨_, rfl, ?_⟩
      refine ⟨_, rfl, Or.inl ⟨_, rfl, ?_⟩⟩
      refine ⟨_, _, rfl, rfl, (by show (0 : Int) < 2305843009213693951; decide), _, _, rfl, rfl, Or.inr ⟨by decide, by decide⟩, ?_⟩
      refine ⟨_, rfl, _, _, rfl, rfl, Or.inl ⟨by decide, by decide⟩, _, rfl, _, _, rfl, rfl, Or.inr ⟨by show -(2 ^ 64 : Int) < (k : Int); omega, by show (k : Int) < 2 ^ 64; omega⟩, ?_⟩
      refine ⟨_, _, rfl, rfl, _, _, rfl, rfl, Or.inl ⟨_, rfl, _, _, rfl, rfl, (by show (0 : Int) < 2305843009213693921; decide), ?_⟩⟩
      refine ⟨(by show 3 ≤ sizeLine; decide), fun p hp => ?_⟩
      refine q _ p hp ⟨_, _, upd_same, ?_, Int.emod_nonneg _ (by decide), Int.emod_lt_of_pos _ (by decide), Int.le_refl 0⟩ (same_new hp)
      exact Int.mul_nonneg (Int.emod_nonneg _ (by decide +kernel)) (nn01 _)
end
end Kzero
end

section
set_option Elab.async false
set_option linter.all false
set_option maxRecDepth 100000
namespace Kzero
open PySem L2
theorem but_upd {p : Addr} {H : Hp} {o : HO} : But p H (upd H p o) := fun b u e n => by rw [upd_ne n]; exact e
theorem primes_pos : ∀ z ∈ ([2147483647, 2147483629, 2147483587, 2147483579, 2147483563] : List Int), 0 < z ∧ z < 2 ^ 31 := by decide
section
variable {P : Program} {w : World} {K : PySem.W.Frag} {mg : Str → Option Value} {base : Heap}
theorem scTake : FnScope ["_law_pot_here", "_law_upto", "_law_digit", "_law_prime", "_law_mixed"] ["_law_pot_here", "_law_upto"] (defScope sTake) := ⟨rfl, rfl, rfl, by decide +kernel, rfl, by decide +kernel, by decide +kernel⟩
theorem ok_take {f : Addr} {fd : FuncData} (F : Fun K "_law_take" "_law_take" sTake f fd) (T : Txt mg) : FnOk P w K mg base CX0 1 f fd ["_law_pot_here", "_law_upto"] spTake := by
  refine F.ok scTake (fun vs H Q E h => ?_) (fun cdv A outer s H vs Q E hr h => ?_)
  · obtain ⟨p, u, n, rfl, _⟩ := h
    rfl
  · obtain ⟨p, u, n, rfl, ⟨own, x, hp, ho, hx0, hx1, hn0⟩, hu0, hu1, hn1, q⟩ := h
    refine ⟨_, pss_cons (ps_if (pt_cmpR op_gt (pe_ix ix_list (pv 0) pe_int (fun _ _ => rfl)) pe_int (nomark _))
        (pss_cons (ps_set (i := 2) scTake.nd rfl (Or.inl rfl) (pe_op op_mod (pe_callTy call_int1 (by rfl) T.int (by decide +kernel) (pa_cons (pe_ix ix_list (pv 0) pe_int (fun _ _ => rfl)) pa_nil)) (pv 1)))
        (pss_cons (ps_asg (pe_op op_fdiv (pe_ix ix_list (pv 0) pe_int (fun _ _ => rfl)) (pv 1)) (pg_sub (pv 0) pe_int set_list))
        (pss_one (ps_ret (pv 2))))) pss_nil)
      (pss_cons (ps_asg (pe_op op_add (pe_ix ix_list (pv 0) pe_int (fun _ _ => rfl)) pe_int) (pg_sub (pv 0) pe_int set_list))
      (pss_cons (ps_set (i := 3) scTake.nd rfl (Or.inl rfl) (pe_ix ix_list (pe_lst (pa_cons pe_int (pa_cons pe_int (pa_cons pe_int (pa_cons pe_int (pa_cons pe_int pa_nil))))))
          (pe_op op_mod (pe_callTy call_int1 (by rfl) T.int (by decide +kernel) (pa_cons (pe_ix ix_list (pv 0) pe_int (fun _ _ => rfl)) pa_nil)) pe_int) (fun _ _ => rfl)))
      (pss_cons (ps_set (i := 4) scTake.nd rfl (Or.inl rfl) (pe_op op_mod (pe_callTy call_int1 (by rfl) T.int (by decide +kernel) (pa_cons (pe_op op_pow
          (pe_op op_add (pe_op op_add (pe_ix ix_list (pv 0) pe_int (fun _ _ => rfl)) (pe_op op_mul (pe_op op_mul pe_int (pe_ix ix_list (pv 0) pe_int (fun _ _ => rfl))) (pe_ix ix_list (pv 0) pe_int (fun _ _ => rfl)))) pe_int) pe_int) pa_nil)) (pv 3)))
      (pss_one (ps_ret (pe_op op_mod (pe_callTy call_int1 (by rfl) T.int (by decide +kernel) (pa_cons (pe_op op_fdiv (pe_op op_mul (pv 4)
          (pe_op op_add (pe_op op_mod (pe_callTy call_int1 (by rfl) T.int (by decide +kernel) (pa_cons (pv 4) pa_nil)) pe_int) (pe_op op_mul pe_int (pe_ix ix_list (pv 0) pe_int (fun _ _ => rfl))))) pe_int) pa_nil)) (pv 1))))))), ?_⟩
    have a0 : atI [V.int own, V.int x, V.int n] 0 = some (V.int own) := rfl
    have a2 : atI [V.int own, V.int x, V.int n] 2 = some (V.int n) := rfl
    refine ⟨_, rfl, p, _, _, _, rfl, rfl, SqL.of hp, a0, _, _, rfl, rfl, _, rfl, ?_⟩
    refine ite2 (fun hpos => ?_) (fun _ => ?_)
    · have hpos : (0 : Int) < own := of_decide_eq_true hpos
      refine ⟨_, rfl, p, _, _, _, rfl, rfl, SqL.of hp, a0, Or.inl ⟨_, rfl, _, rfl, _, _, rfl, rfl, hu0, ?_⟩⟩
      refine ⟨_, rfl, p, _, _, _, rfl, rfl, SqL.of hp, a0, _, rfl, _, _, rfl, rfl, ⟨hu0, by omega⟩, ?_⟩
      refine ⟨_, rfl, p, _, _, 0, rfl, rfl, hp, rfl, ?_⟩
      refine ⟨_, rfl, q _ n _ (Int.emod_nonneg _ (by omega)) (Int.emod_lt_of_pos _ hu0) (Int.le_refl _) (by omega) ⟨own / u, x, upd_same, Int.ediv_nonneg ho (by omega), hx0, hx1, hn0⟩ but_upd⟩
    · refine ⟨_, rfl, p, _, _, _, rfl, rfl, SqL.of hp, a2, _, _, rfl, rfl, ?_⟩
      refine ⟨_, rfl, p, _, _, 2, rfl, rfl, hp, rfl, ?_⟩
      have hp1 : upd H p (.lst ([V.int own, V.int x, V.int n].set 2 (V.int (n + 1)))) p = some (.lst [V.int own, V.int x, V.int (n + 1)]) := upd_same
      generalize hH1 : upd H p (.lst ([V.int own, V.int x, V.int n].set 2 (V.int (n + 1)))) = H1 at hp1
      have b1 : But p H H1 := by rw [← hH1]; exact but_upd
      have c1 : atI [V.int own, V.int x, V.int (n + 1)] 1 = some (V.int x) := rfl
      have c2 : atI [V.int own, V.int x, V.int (n + 1)] 2 = some (V.int (n + 1)) := rfl
      -- the prime
      refine ⟨(by show 5 ≤ sizeLine; decide), fun l hl => ?_⟩
      have nlp : p ≠ l := ne_of_none hp1 hl
      have hp2 : ∀ o, upd H1 l o p = some (.lst [V.int own, V.int x, V.int (n + 1)]) := fun o => by rw [upd_ne nlp]; exact hp1
      refine ⟨_, rfl, p, _, _, _, rfl, rfl, SqL.of (hp2 _), c2, Or.inl ⟨_, rfl, _, _, rfl, rfl, (by show (0 : Int) < 5; decide), ?_⟩⟩
      have hm0 : 0 ≤ (n + 1) % 5 := Int.emod_nonneg _ (by decide)
      have hm1 : (n + 1) % 5 < 5 := Int.emod_lt_of_pos _ (by decide)
      obtain ⟨j, ej⟩ : ∃ j : Nat, (n + 1) % 5 = (j : Int) := ⟨((n + 1) % 5).toNat, by omega⟩
      have hj : j < 5 := by omega
      obtain ⟨z, hz, hz0, hz1⟩ : ∃ z : Int, ([V.int 2147483647, V.int 2147483629, V.int 2147483587, V.int 2147483579, V.int 2147483563] : List V)[j]? = some (V.int z) ∧ 0 < z ∧ z < 2 ^ 31 := by
        match j, hj with
        | 0, _ => exact ⟨_, rfl, by decide, by decide⟩
        | 1, _ => exact ⟨_, rfl, by decide, by decide⟩
        | 2, _ => exact ⟨_, rfl, by decide, by decide⟩
        | 3, _ => exact ⟨_, rfl, by decide, by decide⟩
        | 4, _ => exact ⟨_, rfl, by decide, by decide⟩
      refine ⟨l, _, _, V.int z, rfl, rfl, SqL.of upd_same, at_of (j := j) ej hz, ?_⟩
      generalize hH2 : upd H1 l (.lst [V.int 2147483647, V.int 2147483629, V.int 2147483587, V.int 2147483579, V.int 2147483563]) = H2
      have hp2 : H2 p = some (.lst [V.int own, V.int x, V.int (n + 1)]) := by rw [← hH2]; exact hp2 _
      have b2 : But p H H2 := b1.trans (by rw [← hH2]; exact But.same (same_new hl))
      -- mixed
      have nn : (0 : Int) ≤ (80021 * (n + 1)) * (n + 1) := Int.mul_nonneg (by omega) (by omega)
      have nl : (80021 * (n + 1)) * (n + 1) ≤ (80021 * 100001) * 100001 := Int.mul_le_mul (by omega) (by omega) (by omega) (by decide)
      refine ⟨_, rfl, p, _, _, _, rfl, rfl, SqL.of hp2, c1, _, rfl, p, _, _, _, rfl, rfl, SqL.of hp2, c2, _, _, rfl, rfl, Or.inl ⟨by decide, by decide⟩, ?_⟩
      refine ⟨_, rfl, p, _, _, _, rfl, rfl, SqL.of hp2, c2, _, _, rfl, rfl, Or.inr ⟨by omega, by omega⟩, _, _, rfl, rfl, _, _, rfl, rfl, _, _, rfl, rfl, ⟨by decide, by decide, ?_⟩, Or.inl ⟨_, rfl, ?_⟩⟩
      · show (x + (80021 * (n + 1)) * (n + 1) + 59).natAbs < 2 ^ 64
        have hx2 : x < 2305843009213693921 := hx1
        omega
      refine ⟨_, rfl, _, _, rfl, rfl, hz0, ?_⟩
      generalize hM : (x + (80021 * (n + 1)) * (n + 1) + 59) ^ Int.toNat 3 % z = m
      have m0 : 0 ≤ m := by rw [← hM]; exact Int.emod_nonneg _ (by omega)
      have m1 : m < 2 ^ 31 := by
        have z := Int.emod_lt_of_pos ((x + (80021 * (n + 1)) * (n + 1) + 59) ^ Int.toNat 3) hz0
        rw [hM] at z
        omega
      refine ⟨_, rfl, _, rfl, Or.inl ⟨_, rfl, _, _, rfl, rfl, (by show (0 : Int) < 10009; decide), ?_⟩⟩
      refine ⟨_, rfl, p, _, _, _, rfl, rfl, SqL.of hp2, c2, _, _, rfl, rfl, Or.inl ⟨by decide, by decide⟩, _, _, rfl, rfl, _, _, rfl, rfl, Or.inl ⟨by omega, by omega⟩, ?_⟩
      refine ⟨_, _, rfl, rfl, ⟨by decide, by decide⟩, Or.inl ⟨_, rfl, _, rfl, _, _, rfl, rfl, hu0, ?_⟩⟩
      exact q _ (n + 1) _ (Int.emod_nonneg _ (by omega)) (Int.emod_lt_of_pos _ hu0) (by omega) (by omega) ⟨own, x, hp2, ho, hx0, hx1, by omega⟩ b2
end
end Kzero
end

section
set_option Elab.async false
set_option linter.all false
set_option maxRecDepth 100000
set_option maxHeartbeats 1000000
/-! list(zip(xs, ys)) and dict of it, for short lists: by the library's own steps -/
namespace Kzip
open PySem
/-- a zip of two list iterators: f0 the tuple handed out last, f1 whether it was met alive -/
abbrev ZipIs (h : Heap) (z TI TO : Addr) (f0 : Value) (f1 : Bool) : Prop :=
  h.get? z = some { cls := .type "zip", dict := none, data := .fields #[f0, .bool f1, .bool false, .ref TI, .ref TO], slots := #[] }
section
variable {prog : Program} {w : World} {A : Around} {E : Value → Shared → Prop} {s : Shared}
theorem alive_any {M : Model} {a : Addr} {Q : Option Obj → Shared → Prop} (h : Q (s.heap.get? a) s) : wpAny M A (loadIfAlive a) Q E s := fun _ _ _ => h
/-- the next pair where the one before is still held: a new tuple -/
theorem zip_held {z TI TO i1 i2 l1 l2 T : Addr} {oT : Obj} {f1 : Bool} {k1 k2 : Nat} {xs ys : Array Value} {x y : Value} {Q : Value → Shared → Prop} (D : ZipApart z TI TO i1 i2 l1 l2)
    (hz : ZipIs s.heap z TI TO (rawInt T) f1) (hT : s.heap.get? T = some oT) (hTI : IsPair s.heap TI (.ref i1) (.ref i2))
    (h1 : s.heap.IsListIter i1 l1 k1) (h2 : s.heap.IsListIter i2 l2 k2) (hl1 : s.heap.IsList l1 xs) (hl2 : s.heap.IsList l2 ys) (hx : xs[k1]? = some x) (hy : ys[k2]? = some y)
    (hQ : ∀ h', ZipIs h' z TI TO (rawInt T) true → h'.IsListIter i1 l1 (k1 + 1) → h'.IsListIter i2 l2 (k2 + 1) → IsPair h' s.heap.objs.size x y → h'.objs.size = s.heap.objs.size + 1 →
      (∀ c o, c ≠ z → c ≠ i1 → c ≠ i2 → s.heap.get? c = some o → h'.get? c = some o) → Q (.ref s.heap.objs.size) { s with heap := h' }) :
    wpAny (model prog w) A (Builtin.«zip.__next__» ⟨[.ref z], []⟩) (fun fin s' => ∃ v, fin = .done (.ret v) ∧ Q v s') E s := by
  show wpAny _ _ (field (.ref z) 2 >>= _) _ _ _
  refine wpAny_bind (wpAny_field hz rfl (x := .bool false) rfl ?_)
  show wpAny _ _ (field (.ref z) 3 >>= _) _ _ _
  refine wpAny_bind (wpAny_field hz rfl (x := .ref TI) rfl ?_)
  refine wpAny_bind (wpAny_seqItems hTI rfl ?_)
  show wpAny _ _ (Builtin.SmallTypes.ownedTupleIsFree (.ref z) >>= _) _ _ _
  refine wpAny_bind ?_
  unfold Builtin.SmallTypes.ownedTupleIsFree
  refine wpAny_bind (wpAny_field hz rfl (x := rawInt T) rfl ?_)
  show wpAny _ _ (loadIfAlive (Int.toNat (T : Int)) >>= _) _ _ _
  refine wpAny_bind (alive_any ?_)
  rw [Int.toNat_natCast, hT]
  show wpAny _ _ ((field (.ref z) 1 >>= fun v => if (v != .bool true) = true then (setField (.ref z) 1 (.bool true) >>= fun _ => pure false) else pure false)) _ _ _
  refine wpAny_bind (wpAny_field hz rfl (x := .bool f1) rfl ?_)
  cases f1
  case' false =>
    rw [if_pos (by decide)]
    refine wpAny_bind (wpAny_setField_rec hz (by simp) fun hh hzh hsh => ?_)
    replace hzh : ZipIs hh z TI TO (rawInt T) true := hzh
    have hsz : hh.objs.size = s.heap.objs.size := hsh.1
    have hkz : ∀ c o, c ≠ z → s.heap.get? c = some o → hh.get? c = some o := fun c o n e => hsh.extBut c o n e
    have g1 : hh.IsListIter i1 l1 k1 := h1.at fun o e => hkz _ o D.i1z e
    have g2 : hh.IsListIter i2 l2 k2 := h2.at fun o e => hkz _ o D.i2z e
    have gl1 : hh.IsList l1 xs := hl1.at fun o e => hkz _ o D.l1z e
    have gl2 : hh.IsList l2 ys := hl2.at fun o e => hkz _ o D.l2z e
  case' true =>
    rw [if_neg (by decide)]
    have hzh := hz
    have hsz : s.heap.objs.size = s.heap.objs.size := rfl
    have hkz : ∀ c o, c ≠ z → s.heap.get? c = some o → s.heap.get? c = some o := fun c o n e => e
    have g1 := h1
    have g2 := h2
    have gl1 := hl1
    have gl2 := hl2
  all_goals
    refine wpAny_pure ?_
    refine wpAny_bind ?_
    rw [← Array.forIn_toList]
    simp only [List.forIn_cons, List.forIn_nil]
    refine wpAny_bind (wpAny_bind (wpAny_holding ?_))
    show wpAny _ _ (Builtin.SmallTypes.nextOf (.ref i1) >>= _) _ _ _
    refine wpAny_bind (wpAny_nextOf_list_item g1 gl1 hx fun h₂ h1₂ hs₂ => wpAny_pure (wpAny_pure ?_))
    have k₂ : ∀ c o, c ≠ i1 → _ → h₂.get? c = some o := fun c o n e => hs₂.extBut c o n e
    refine wpAny_bind (wpAny_bind (wpAny_holding ?_))
    show wpAny _ _ (Builtin.SmallTypes.nextOf (.ref i2) >>= _) _ _ _
    refine wpAny_bind (wpAny_nextOf_list_item (g2.at fun o e => k₂ _ o D.i12.symm e) (gl2.at fun o e => k₂ _ o D.l2i1 e) hy fun h₃ h2₃ hs₃ => wpAny_pure (wpAny_pure (wpAny_pure ?_)))
    have k₃ : ∀ c o, c ≠ i2 → h₂.get? c = some o → h₃.get? c = some o := fun c o n e => hs₃.extBut c o n e
    refine wpAny_bind (wpAny_newTuple ?_ (hsz := by show 2 ≤ sizeLine; decide))
    have hn : h₃.objs.size = s.heap.objs.size := by rw [hs₃.1, hs₂.1, hsz]
    have h1₃ : h₃.IsListIter i1 l1 (k1 + 1) := h1₂.at fun o e => k₃ _ o D.i12 e
    have hz₃ := k₃ _ _ D.i2z.symm (k₂ _ _ D.i1z.symm hzh)
    refine wpAny_pure ⟨_, rfl, ?_⟩
    show Q (.ref h₃.objs.size) _
    rw [hn]
    refine hQ (h₃.push { cls := .type "tuple", data := .seq #[x, y] }) (Heap.get?_push_of_some _ hz₃) (h1₃.at fun o e => Heap.get?_push_of_some _ e) (h2₃.at fun o e => Heap.get?_push_of_some _ e) ?_ ?_ ?_
    · rw [← hn]
      exact Heap.get?_push_size _ rfl
    · rw [Heap.size_push, hn]
    · intro c o c1 c2 c3 e
      exact Heap.get?_push_of_some _ (k₃ c o c3 (k₂ c o c2 (hkz c o c1 e)))
/-- a zip that has handed out a tuple which is held, at its end -/
theorem zip_held_end {z TI TO i1 i2 l1 l2 T : Addr} {oT : Obj} {f1 : Bool} {k1 k2 : Nat} {xs ys : Array Value} {Q : Fin → Shared → Prop} (hh : A.handled = none) (D : ZipApart z TI TO i1 i2 l1 l2)
    (hz : ZipIs s.heap z TI TO (rawInt T) f1) (hT : s.heap.get? T = some oT) (hTI : IsPair s.heap TI (.ref i1) (.ref i2))
    (h1 : s.heap.IsListIter i1 l1 k1) (h2 : s.heap.IsListIter i2 l2 k2) (hl1 : s.heap.IsList l1 xs) (hl2 : s.heap.IsList l2 ys) (hend : xs[k1]? = none ∨ ys[k2]? = none)
    (hE : ∀ h' e, (∀ c o, c ≠ z → c ≠ i1 → c ≠ i2 → s.heap.get? c = some o → h'.get? c = some o) → (∃ o, h'.get? e = some o ∧ o.cls = .type "StopIteration") → E (.ref e) { s with heap := h' }) :
    wpAny (model prog w) A (Builtin.«zip.__next__» ⟨[.ref z], []⟩) Q E s := by
  show wpAny _ _ (field (.ref z) 2 >>= _) _ _ _
  refine wpAny_bind (wpAny_field hz rfl (x := .bool false) rfl ?_)
  show wpAny _ _ (field (.ref z) 3 >>= _) _ _ _
  refine wpAny_bind (wpAny_field hz rfl (x := .ref TI) rfl ?_)
  refine wpAny_bind (wpAny_seqItems hTI rfl ?_)
  show wpAny _ _ (Builtin.SmallTypes.ownedTupleIsFree (.ref z) >>= _) _ _ _
  refine wpAny_bind ?_
  unfold Builtin.SmallTypes.ownedTupleIsFree
  refine wpAny_bind (wpAny_field hz rfl (x := rawInt T) rfl ?_)
  show wpAny _ _ (loadIfAlive (Int.toNat (T : Int)) >>= _) _ _ _
  refine wpAny_bind (alive_any ?_)
  rw [Int.toNat_natCast, hT]
  show wpAny _ _ ((field (.ref z) 1 >>= fun v => if (v != .bool true) = true then (setField (.ref z) 1 (.bool true) >>= fun _ => pure false) else pure false)) _ _ _
  refine wpAny_bind (wpAny_field hz rfl (x := .bool f1) rfl ?_)
  cases f1
  case' false =>
    rw [if_pos (by decide)]
    refine wpAny_bind (wpAny_setField_rec hz (by simp) fun hh hzh hsh => ?_)
    replace hzh : ZipIs hh z TI TO (rawInt T) true := hzh
    have hkz : ∀ c o, c ≠ z → s.heap.get? c = some o → hh.get? c = some o := fun c o n e => hsh.extBut c o n e
    have g1 : hh.IsListIter i1 l1 k1 := h1.at fun o e => hkz _ o D.i1z e
    have g2 : hh.IsListIter i2 l2 k2 := h2.at fun o e => hkz _ o D.i2z e
    have gl1 : hh.IsList l1 xs := hl1.at fun o e => hkz _ o D.l1z e
    have gl2 : hh.IsList l2 ys := hl2.at fun o e => hkz _ o D.l2z e
  case' true =>
    rw [if_neg (by decide)]
    have hzh := hz
    have hkz : ∀ c o, c ≠ z → s.heap.get? c = some o → s.heap.get? c = some o := fun c o n e => e
    have g1 := h1
    have g2 := h2
    have gl1 := hl1
    have gl2 := hl2
  all_goals
    refine wpAny_pure ?_
    refine wpAny_bind ?_
    rw [← Array.forIn_toList]
    simp only [List.forIn_cons, List.forIn_nil]
    refine wpAny_bind (wpAny_bind (wpAny_holding ?_))
    show wpAny _ _ (Builtin.SmallTypes.nextOf (.ref i1) >>= _) _ _ _
    cases hx : xs[k1]? with
    | none =>
      refine wpAny_bind (wpAny_nextOf_list_end ‹A.handled = none› g1 gl1 hx fun h₂ e hs₂ he => ?_)
      exact hE h₂ e (fun c o c1 c2 _ q => hs₂ c o c2 (hkz c o c1 q)) he
    | some x =>
      have hy : ys[k2]? = none := by
        rcases hend with h | h
        · rw [hx] at h
          cases h
        · exact h
      refine wpAny_bind (wpAny_nextOf_list_item g1 gl1 hx fun h₂ h1₂ hs₂ => wpAny_pure (wpAny_pure ?_))
      have k₂ : ∀ c o, c ≠ i1 → _ → h₂.get? c = some o := fun c o n e => hs₂.extBut c o n e
      refine wpAny_bind (wpAny_bind (wpAny_holding ?_))
      show wpAny _ _ (Builtin.SmallTypes.nextOf (.ref i2) >>= _) _ _ _
      refine wpAny_bind (wpAny_nextOf_list_end ‹A.handled = none› (g2.at fun o e => k₂ _ o D.i12.symm e) (gl2.at fun o e => k₂ _ o D.l2i1 e) hy fun h₃ e hs₃ he => ?_)
      exact hE h₃ e (fun c o c1 c2 c3 q => hs₃ c o c3 (k₂ c o c2 (hkz c o c1 q))) he
/-- the iterator's step, as a loop asks it -/
theorem next_held {z TI TO i1 i2 l1 l2 T : Addr} {oT : Obj} {f1 : Bool} {k1 k2 : Nat} {xs ys : Array Value} {x y : Value} {Q : Option Value → Shared → Prop} (D : ZipApart z TI TO i1 i2 l1 l2)
    (hz : ZipIs s.heap z TI TO (rawInt T) f1) (hT : s.heap.get? T = some oT) (hTI : IsPair s.heap TI (.ref i1) (.ref i2))
    (h1 : s.heap.IsListIter i1 l1 k1) (h2 : s.heap.IsListIter i2 l2 k2) (hl1 : s.heap.IsList l1 xs) (hl2 : s.heap.IsList l2 ys) (hx : xs[k1]? = some x) (hy : ys[k2]? = some y)
    (hQ : ∀ h', ZipIs h' z TI TO (rawInt T) true → h'.IsListIter i1 l1 (k1 + 1) → h'.IsListIter i2 l2 (k2 + 1) → IsPair h' s.heap.objs.size x y → h'.objs.size = s.heap.objs.size + 1 →
      (∀ c o, c ≠ z → c ≠ i1 → c ≠ i2 → s.heap.get? c = some o → h'.get? c = some o) → Q (some (.ref s.heap.objs.size)) { s with heap := h' }) :
    wpAny (model prog w) A (pyNext (.ref z)) Q E s := by
  have ht : s.TypeIs (.ref z) "zip" := ⟨_, hz, rfl⟩
  unfold pyNext
  refine wpAny_bind (wpAny_attempt (wpAny_callSpecial?_slot (name := Str.ofString "__next__") ht F.slot_zip_next (wpAny_call_entry F.slot_zip_next ht F.entry_zip_next ?_ (F.args_zip_next_1 _))))
  exact zip_held D hz hT hTI h1 h2 hl1 hl2 hx hy fun h' a1 a2 a3 a4 a5 a6 => wpAny_pure (hQ h' a1 a2 a3 a4 a5 a6)
theorem next_held_end {z TI TO i1 i2 l1 l2 T : Addr} {oT : Obj} {f1 : Bool} {k1 k2 : Nat} {xs ys : Array Value} {Q : Option Value → Shared → Prop} (hh : A.handled = none) (D : ZipApart z TI TO i1 i2 l1 l2)
    (hz : ZipIs s.heap z TI TO (rawInt T) f1) (hT : s.heap.get? T = some oT) (hTI : IsPair s.heap TI (.ref i1) (.ref i2))
    (h1 : s.heap.IsListIter i1 l1 k1) (h2 : s.heap.IsListIter i2 l2 k2) (hl1 : s.heap.IsList l1 xs) (hl2 : s.heap.IsList l2 ys) (hend : xs[k1]? = none ∨ ys[k2]? = none)
    (hQ : ∀ h', (∀ c o, c ≠ z → c ≠ i1 → c ≠ i2 → s.heap.get? c = some o → h'.get? c = some o) → Q none { s with heap := h' }) :
    wpAny (model prog w) A (pyNext (.ref z)) Q E s := by
  have ht : s.TypeIs (.ref z) "zip" := ⟨_, hz, rfl⟩
  unfold pyNext
  refine wpAny_bind (wpAny_attempt (wpAny_callSpecial?_slot (name := Str.ofString "__next__") ht F.slot_zip_next (wpAny_call_entry F.slot_zip_next ht F.entry_zip_next ?_ (F.args_zip_next_1 _))))
  refine zip_held_end hh D hz hT hTI h1 h2 hl1 hl2 hend fun h' e hk he => ?_
  obtain ⟨o, ho, hc⟩ := he
  exact wpAny_bind (wpAny_isInstance (T := "StopIteration") (b := true) ⟨o, ho, hc⟩ isSubtype_stop (wpAny_pure (hQ _ hk)))
end
end Kzip
end

section
set_option Elab.async false
set_option linter.all false
set_option maxRecDepth 100000
set_option maxHeartbeats 1000000
namespace Kzip
open PySem
theorem zip_len_no : typeLookup (.type "zip") "__len__" = pure none := by rw [typeLookup_type, builtinLookup_eq_fast]; kernel_rfl
theorem zip_hint_no : typeLookup (.type "zip") "__length_hint__" = pure none := by rw [typeLookup_type, builtinLookup_eq_fast]; kernel_rfl
/-- behind k pairs: the list at S holds them -/
structure Turns (h : Heap) (z TI TO i1 i2 l1 l2 S : Addr) (xs ys acc : Array Value) (c k : Nat) : Prop where
  lst : h.get? S = some { cls := .type "list", dict := none, data := .seq acc c, slots := #[] }
  size : acc.size = k
  ti : IsPair h TI (.ref i1) (.ref i2)
  there : ∃ u, h.get? TO = some u
  it1 : h.IsListIter i1 l1 k
  it2 : h.IsListIter i2 l2 k
  s1 : h.IsList l1 xs
  s2 : h.IsList l2 ys
  zs : (ZipIs h z TI TO .none false ∧ ∃ a b, IsPair h TO a b) ∨ ∃ (T : Addr) (oT : Obj) (f1 : Bool), ZipIs h z TI TO (rawInt T) f1 ∧ h.get? T = some oT ∧ T ≠ z ∧ T ≠ TO ∧ T ≠ i1 ∧ T ≠ i2 ∧ T ≠ S
  items : ∀ j, j < k → ∃ (T : Addr) (x y : Value), acc[j]? = some (.ref T) ∧ xs[j]? = some x ∧ ys[j]? = some y ∧ IsPair h T x y ∧ T ≠ z ∧ T ≠ TO ∧ T ≠ i1 ∧ T ≠ i2 ∧ T ≠ S
/-- S stands apart from what the zip is made of -/
structure Off (S z TI TO i1 i2 l1 l2 : Addr) : Prop where
  z : S ≠ z
  ti : S ≠ TI
  to : S ≠ TO
  i1 : S ≠ i1
  i2 : S ≠ i2
  l1 : S ≠ l1
  l2 : S ≠ l2
/-- the list's own object changes, and nothing else -/
theorem Turns.touch {h h' : Heap} {z TI TO i1 i2 l1 l2 S : Addr} {xs ys acc acc' : Array Value} {c c' k : Nat} (t : Turns h z TI TO i1 i2 l1 l2 S xs ys acc c k) (o : Off S z TI TO i1 i2 l1 l2)
    (hk : ∀ b u, b ≠ S → h.get? b = some u → h'.get? b = some u) (hS : h'.get? S = some { cls := .type "list", dict := none, data := .seq acc' c', slots := #[] }) (hz : acc'.size = k)
    (hi : ∀ j, j < k → acc'[j]? = acc[j]?) : Turns h' z TI TO i1 i2 l1 l2 S xs ys acc' c' k where
  lst := hS
  size := hz
  ti := hk _ _ o.ti.symm t.ti
  there := by
    obtain ⟨u, e⟩ := t.there
    exact ⟨u, hk _ _ o.to.symm e⟩
  it1 := t.it1.at fun u e => hk _ u o.i1.symm e
  it2 := t.it2.at fun u e => hk _ u o.i2.symm e
  s1 := t.s1.at fun u e => hk _ u o.l1.symm e
  s2 := t.s2.at fun u e => hk _ u o.l2.symm e
  zs := by
    rcases t.zs with ⟨a, x, y, b⟩ | ⟨T, oT, f1, a, b, n⟩
    · exact .inl ⟨hk _ _ o.z.symm a, x, y, hk _ _ o.to.symm b⟩
    · exact .inr ⟨T, oT, f1, hk _ _ o.z.symm a, hk _ _ n.2.2.2.2 b, n⟩
  items := fun j hj => by
    obtain ⟨T, x, y, e, r⟩ := t.items j hj
    exact ⟨T, x, y, (hi j hj).trans e, r.1, r.2.1, hk _ _ r.2.2.2.2.2.2.2 r.2.2.1, r.2.2.2⟩
section
variable {prog : Program} {w : World} {A : Around} {E : Value → Shared → Prop} {s : Shared}
/-- one turn of the zip: the pair behind, as yet outside of the list -/
theorem zip_turn {z TI TO i1 i2 l1 l2 S : Addr} {xs ys acc : Array Value} {c k : Nat} {x y : Value} {Q : Option Value → Shared → Prop} (D : ZipApart z TI TO i1 i2 l1 l2) (o : Off S z TI TO i1 i2 l1 l2)
    (t : Turns s.heap z TI TO i1 i2 l1 l2 S xs ys acc c k) (hx : xs[k]? = some x) (hy : ys[k]? = some y)
    (hQ : ∀ (T : Addr) (h' : Heap), (∀ a', a' = acc.push (.ref T) → ∀ hh cc, (∀ b u, b ≠ S → h'.get? b = some u → hh.get? b = some u) → hh.get? S = some { cls := .type "list", dict := none, data := .seq a' cc, slots := #[] } → Turns hh z TI TO i1 i2 l1 l2 S xs ys a' cc (k + 1)) →
      h'.get? S = s.heap.get? S → (∀ b u, b ≠ z → b ≠ TO → b ≠ i1 → b ≠ i2 → s.heap.get? b = some u → h'.get? b = some u) → Q (some (.ref T)) { s with heap := h' }) :
    wpAny (model prog w) A (pyNext (.ref z)) Q E s := by
  have hSlt := Heap.lt_size t.lst
  have core : ∀ (h' : Heap), (∃ f0 f1, ZipIs h' z TI TO f0 f1 ∧ ∃ (T : Addr) (oT : Obj), f0 = rawInt T ∧ h'.get? T = some oT ∧ T ≠ z ∧ T ≠ TO ∧ T ≠ i1 ∧ T ≠ i2 ∧ T ≠ S) → h'.IsListIter i1 l1 (k + 1) → h'.IsListIter i2 l2 (k + 1) → IsPair h' s.heap.objs.size x y →
      (∃ u, h'.get? TO = some u) → (∀ b u, b ≠ z → b ≠ TO → b ≠ i1 → b ≠ i2 → s.heap.get? b = some u → h'.get? b = some u) → Q (some (.ref s.heap.objs.size)) { s with heap := h' } := by
    intro h' ⟨f0, f1, hz', T0, oT0, e0, hT0, n0⟩ g1 g2 gp ⟨uT, hTo⟩ hk
    have lt : ∀ {b u}, s.heap.get? b = some u → s.heap.objs.size ≠ b := fun e => Nat.ne_of_gt (Heap.lt_size e)
    have nz : s.heap.objs.size ≠ z := by
      rcases t.zs with ⟨a, _⟩ | ⟨_, _, _, a, _⟩
      · exact lt a
      · exact lt a
    have n1 : s.heap.objs.size ≠ i1 := let ⟨_, e, _⟩ := t.it1; lt e
    have n2 : s.heap.objs.size ≠ i2 := let ⟨_, e, _⟩ := t.it2; lt e
    have nS : s.heap.objs.size ≠ S := lt t.lst
    refine hQ s.heap.objs.size h' (fun a' ea hh cc kk hS' => ?_) ?_ hk
    · subst ea
      have up : ∀ b u, b ≠ S → b ≠ z → b ≠ TO → b ≠ i1 → b ≠ i2 → s.heap.get? b = some u → hh.get? b = some u := fun b u b0 b1 b2 b3 b4 e => kk b u b0 (hk b u b1 b2 b3 b4 e)
      refine ⟨hS', by rw [Array.size_push, t.size], up _ _ o.ti.symm D.TIz D.TITO D.TIi1 D.TIi2 t.ti, ⟨uT, kk _ _ o.to.symm hTo⟩, g1.at fun u e => kk _ u o.i1.symm e, g2.at fun u e => kk _ u o.i2.symm e,
        t.s1.at fun u e => up _ u o.l1.symm D.l1z D.l1TO D.l1i1 D.l1i2 e, t.s2.at fun u e => up _ u o.l2.symm D.l2z D.l2TO D.l2i1 D.l2i2 e, .inr ⟨T0, oT0, f1, ?_, kk _ _ n0.2.2.2.2 hT0, n0⟩, fun j hj => ?_⟩
      · rw [← e0]
        exact kk _ _ o.z.symm hz'
      · by_cases hjk : j < k
        · obtain ⟨T, x', y', e, ex, ey, ep, m1, m2, m3, m4, m5⟩ := t.items j hjk
          refine ⟨T, x', y', ?_, ex, ey, up _ _ m5 m1 m2 m3 m4 ep, m1, m2, m3, m4, m5⟩
          rw [Array.getElem?_push, if_neg (by rw [t.size]; omega)]
          exact e
        · have ej : j = k := by omega
          subst ej
          have nTO : s.heap.objs.size ≠ TO := by
            obtain ⟨_, e⟩ := t.there
            exact lt e
          refine ⟨s.heap.objs.size, x, y, ?_, hx, hy, kk _ _ nS gp, nz, nTO, n1, n2, nS⟩
          rw [Array.getElem?_push, if_pos t.size.symm]
    · rw [t.lst]
      exact hk _ _ o.z o.to o.i1 o.i2 t.lst
  have lt : ∀ {b u}, s.heap.get? b = some u → s.heap.objs.size ≠ b := fun e => Nat.ne_of_gt (Heap.lt_size e)
  rcases t.zs with ⟨hz, a, b, hTO⟩ | ⟨T, oT, f1, hz, hT, n1, n2, n3, n4, n5⟩
  · refine wpAny_pyNext_zip_item D hz t.ti hTO t.it1 t.it2 t.s1 t.s2 hx hy fun h' a1 a2 a3 a4 a5 a6 hk => core h' ⟨_, _, a1, _, _, rfl, a5, lt hz, lt hTO, ?_, ?_, lt t.lst⟩ a3 a4 a5 ⟨_, a2⟩ hk
    · obtain ⟨_, e, _⟩ := t.it1
      exact lt e
    · obtain ⟨_, e, _⟩ := t.it2
      exact lt e
  · exact next_held D hz hT t.ti t.it1 t.it2 t.s1 t.s2 hx hy fun h' a1 a2 a3 a4 a5 hk => core h' ⟨_, _, a1, T, oT, rfl, hk _ _ n1 n3 n4 hT, n1, n2, n3, n4, n5⟩ a2 a3 a4 (by
      obtain ⟨u, e⟩ := t.there
      exact ⟨u, hk _ _ D.TOz D.TOi1 D.TOi2 e⟩) fun b u b1 _ b3 b4 e => hk b u b1 b3 b4 e
/-- the loop of list.extend over the zip -/
theorem zip_loop {R : Result → Shared → Prop} {z TI TO i1 i2 l1 l2 S : Addr} {xs ys : Array Value} (D : ZipApart z TI TO i1 i2 l1 l2) (o : Off S z TI TO i1 i2 l1 l2) (res : Value) (hn : min xs.size ys.size ≤ 1000) (hA : A.handled = none) :
    ∀ (r k : Nat) (s : Shared) (acc : Array Value) (c : Nat), min xs.size ys.size - k = r → k ≤ min xs.size ys.size → Turns s.heap z TI TO i1 i2 l1 l2 S xs ys acc c k →
    (∀ (h' : Heap) (tk : Nat) (acc' : Array Value) (c' : Nat), h'.get? S = some { cls := .type "list", dict := none, data := .seq acc' c', slots := #[] } → acc'.size = min xs.size ys.size →
      (∀ j, j < min xs.size ys.size → ∃ (T : Addr) (x y : Value), acc'[j]? = some (.ref T) ∧ xs[j]? = some x ∧ ys[j]? = some y ∧ IsPair h' T x y) →
      (∀ b u, b ≠ z → b ≠ TO → b ≠ i1 → b ≠ i2 → b ≠ S → s.heap.get? b = some u → h'.get? b = some u) → R (.ok (.ret res)) { s with heap := h', toks := tk }) →
    codeAny (model prog w) A (.builtin "list.extend.loop" ⟨[.ref S, .ref z, res], []⟩) R s := by
  intro r
  induction r with
  | zero =>
    intro k s acc c hr hk t hR
    have ek : k = min xs.size ys.size := by omega
    subst ek
    refine codeAny_builtin F.entry_extend_loop ?_
    rw [Around.under_plainId F.plain_extend_loop _]
    show wpAny _ A.in1 (pyNext (.ref z) >>= _) _ _ s
    have hend : xs[min xs.size ys.size]? = none ∨ ys[min xs.size ys.size]? = none := by
      by_cases q : xs.size ≤ ys.size
      · exact .inl (Array.getElem?_eq_none (by omega))
      · exact .inr (Array.getElem?_eq_none (by omega))
    have fin : ∀ h' : Heap, (∀ b u, b ≠ z → b ≠ TO → b ≠ i1 → b ≠ i2 → s.heap.get? b = some u → h'.get? b = some u) → R (.ok (.ret res)) { s with heap := h' } := fun h' hk =>
      hR h' s.toks acc c (hk _ _ o.z o.to o.i1 o.i2 t.lst) t.size (fun j hj => by
        obtain ⟨T, x, y, e, ex, ey, ep, m1, m2, m3, m4, m5⟩ := t.items j hj
        exact ⟨T, x, y, e, ex, ey, hk _ _ m1 m2 m3 m4 ep⟩) fun b u b1 b2 b3 b4 _ e => hk b u b1 b2 b3 b4 e
    rcases t.zs with ⟨hz, a, b, hTO⟩ | ⟨T, oT, f1, hz, hT, n1, n2, n3, n4, n5⟩
    · exact wpAny_bind (wpAny_pyNext_zip_end hA D hz t.ti hTO t.it1 t.it2 t.s1 t.s2 hend fun h' hk => wpAny_pure (fin h' hk))
    · exact wpAny_bind (next_held_end hA D hz hT t.ti t.it1 t.it2 t.s1 t.s2 hend fun h' hk => wpAny_pure (fin h' fun b u b1 _ b3 b4 e => hk b u b1 b3 b4 e))
  | succ r ih =>
    intro k s acc c hr hk t hR
    have hlt : k < min xs.size ys.size := by omega
    have hx : xs[k]? = some (xs[k]'(by omega)) := Array.getElem?_eq_getElem (by omega)
    have hy : ys[k]? = some (ys[k]'(by omega)) := Array.getElem?_eq_getElem (by omega)
    refine codeAny_builtin F.entry_extend_loop ?_
    rw [Around.under_plainId F.plain_extend_loop _]
    show wpAny _ A.in1 (pyNext (.ref z) >>= _) _ _ s
    refine wpAny_bind (zip_turn D o t hx hy fun T h' build hS' keep => ?_)
    show wpAny _ A.in1 (updateSeq S (·.push (.ref T)) >>= _) _ _ _
    rw [t.lst] at hS'
    have big : (1000 : Nat) ≤ sizeLine := by decide
    have z1 : acc.size ≤ sizeLine := by
      rw [t.size]
      omega
    have z2 : (acc.push (.ref T)).size ≤ sizeLine + 1 := by
      rw [Array.size_push]
      omega
    refine wpAny_bind (wpAny_updateSeq hS' rfl (wpAny_pure ⟨plainId_quiet F.plain_extend_loop _, ?_⟩) z1 z2)
    have hup := Heap.get?_update_self (Obj.mapSeq (·.push (.ref T))) hS' rfl
    have hoth : ∀ b u, b ≠ S → h'.get? b = some u → (h'.update S (Obj.mapSeq (·.push (.ref T)))).get? b = some u := fun b u nb e => (Heap.get?_update_other _ _ (Ne.symm nb)).trans e
    refine ih (k + 1) _ (acc.push (.ref T)) _ (by omega) hlt (build _ rfl _ _ hoth hup) fun h2 tk acc2 c2 g1 g2 g3 g4 => ?_
    exact hR h2 tk acc2 c2 g1 g2 g3 fun b u b1 b2 b3 b4 b5 e => g4 b u b1 b2 b3 b4 b5 (hoth b u b5 (keep b u b1 b2 b3 b4 e))
/-- list(zip(xs, ys)), the zip just made -/
theorem list_of_zip {z TI TO i1 i2 l1 l2 : Addr} {xs ys : Array Value} {a b : Value} {Q : Value → Shared → Prop} (D : ZipApart z TI TO i1 i2 l1 l2) (hn : min xs.size ys.size ≤ 1000) (hA : A.handled = none)
    (hz : ZipIs s.heap z TI TO .none false) (hTI : IsPair s.heap TI (.ref i1) (.ref i2)) (hTO : IsPair s.heap TO a b) (h1 : s.heap.IsListIter i1 l1 0) (h2 : s.heap.IsListIter i2 l2 0) (hl1 : s.heap.IsList l1 xs) (hl2 : s.heap.IsList l2 ys)
    (hQ : ∀ (h' : Heap) (tk : Nat) (acc : Array Value) (c : Nat), h'.get? s.heap.objs.size = some { cls := .type "list", dict := none, data := .seq acc c, slots := #[] } → acc.size = min xs.size ys.size →
      (∀ j, j < min xs.size ys.size → ∃ (T : Addr) (x y : Value), acc[j]? = some (.ref T) ∧ xs[j]? = some x ∧ ys[j]? = some y ∧ IsPair h' T x y) →
      (∀ b u, b ≠ z → b ≠ TO → b ≠ i1 → b ≠ i2 → s.heap.get? b = some u → h'.get? b = some u) → Q (.ref s.heap.objs.size) { s with heap := h', toks := tk }) :
    wpAny (model prog w) A (call (.type "list") [.ref z]) Q E s := by
  refine callType_codes (Q₁ := fun obj s₁ => obj = .ref s.heap.objs.size ∧ s₁ = { s with heap := s.heap.push { cls := .type "list", data := .seq #[] } }) PySem.F.called_list (PySem.F.typeCall_list_1 _) PySem.F.entry_list_init
    (code_list_new _ ⟨rfl, rfl⟩) fun obj s₁ e₁ => ?_
  obtain ⟨rfl, rfl⟩ := e₁
  have hS : (s.heap.push { cls := .type "list", data := .seq #[] }).get? s.heap.objs.size = some { cls := .type "list", data := .seq #[] } := Heap.get?_push_size _ rfl
  have up : ∀ b u, s.heap.get? b = some u → (s.heap.push { cls := .type "list", data := .seq #[] }).get? b = some u := fun b u e => Heap.get?_push_of_some _ e
  have lt : ∀ {b u}, s.heap.get? b = some u → s.heap.objs.size ≠ b := fun e => Nat.ne_of_gt (Heap.lt_size e)
  have o : Off s.heap.objs.size z TI TO i1 i2 l1 l2 := ⟨lt hz, lt hTI, lt hTO, (by obtain ⟨_, e, _⟩ := h1; exact lt e), (by obtain ⟨_, e, _⟩ := h2; exact lt e), (by obtain ⟨_, e, _⟩ := hl1; exact lt e), (by obtain ⟨_, e, _⟩ := hl2; exact lt e)⟩
  have tz : ∀ hh : Heap, ZipIs hh z TI TO .none false → Shared.TypeIs { s with heap := hh } (.ref z) "zip" := fun hh e => ⟨_, e, rfl⟩
  generalize s.heap.push { cls := .type "list", data := .seq #[] } = hp at hS up
  refine ⟨⟨_, hS, rfl⟩, PySem.F.args_list_init_2 _ _, ?_⟩
  show wpAny _ _ (do let old ← Builtin.List.listItems (.ref s.heap.objs.size); Builtin.List.listUpdate (.ref s.heap.objs.size) (fun _ => #[]); letGo old.toList.reverse; Builtin.List.listExtendWith (.ref s.heap.objs.size) (.ref z) .none) _ _ _
  refine wpAny_bind ?_
  unfold Builtin.List.listItems
  refine wpAny_bind (wpAny_seqItems hS rfl (wpAny_pure ?_))
  show wpAny _ _ (updateSeq s.heap.objs.size (fun _ => #[]) >>= fun _ => letGo (#[] : Array Value).toList.reverse >>= fun _ => Builtin.List.listExtendWith (.ref s.heap.objs.size) (.ref z) .none) _ _ _
  refine wpAny_bind (wpAny_updateSeq hS rfl ?_)
  have hS₂ := Heap.get?_update_self (Obj.mapSeq (fun _ => (#[] : Array Value))) hS rfl
  have up2 : ∀ b u, s.heap.get? b = some u → (hp.update s.heap.objs.size (Obj.mapSeq (fun _ => (#[] : Array Value)))).get? b = some u := fun b u e => (Heap.get?_update_other _ _ (lt e)).trans (up b u e)
  refine wpAny_bind (wpAny_letGo ?_)
  generalize hp.update s.heap.objs.size (Obj.mapSeq (fun _ => (#[] : Array Value))) = hq at hS₂ up2
  unfold Builtin.List.listExtendWith
  refine wpAny_bind (wpAny_typeOf (tz hq (up2 _ _ hz)) ?_)
  have q1 : Builtin.List.listSameRef (.ref s.heap.objs.size) (.ref z) = false := by simp [Builtin.List.listSameRef, o.z]
  have q2 : (Value.type "zip" == Value.type "list") = false := by decide
  have q3 : (Value.type "zip" == Value.type "tuple") = false := by decide
  simp only [q1, q2, q3, Bool.or_false, Bool.false_eq_true, if_false]
  refine wpAny_bind (wpAny_pyIter_zip (up2 _ _ hz) ?_)
  refine wpAny_bind (wpAny_holding ?_)
  unfold Builtin.List.listLengthHint
  refine wpAny_bind (wpAny_specialOf (tz hq (up2 _ _ hz)) zip_len_no ?_)
  show wpAny _ _ (specialOf (Value.ref z) (Str.ofString "__length_hint__") >>= _) _ _ _
  refine wpAny_bind (wpAny_specialOf (tz hq (up2 _ _ hz)) zip_hint_no ?_)
  refine wpAny_pure ?_
  show wpAny _ _ (rule "list.extend.makes-room" >>= fun _ => Builtin.List.listTouch (.ref s.heap.objs.size) >>= fun _ => again (.builtin "list.extend.loop" ⟨[.ref s.heap.objs.size, .ref z, .none], []⟩)) _ _ _
  refine wpAny_bind (wpAny_rule ?_)
  refine wpAny_bind ?_
  show wpAny _ _ (updateSeq s.heap.objs.size (·.push .none) >>= fun _ => updateSeq s.heap.objs.size (·.pop)) _ _ _
  refine wpAny_bind (wpAny_updateSeq hS₂ rfl ?_)
  have hS₃ := Heap.get?_update_self (Obj.mapSeq (·.push Value.none)) hS₂ rfl
  refine wpAny_updateSeq (hz := by seq_fits) hS₃ rfl ?_
  have hS₄ := Heap.get?_update_self (Obj.mapSeq (·.pop)) hS₃ rfl
  have up4 : ∀ b u, s.heap.get? b = some u → ((hq.update s.heap.objs.size (Obj.mapSeq (·.push Value.none))).update s.heap.objs.size (Obj.mapSeq (·.pop))).get? b = some u := fun b u e =>
    (Heap.get?_update_other _ _ (lt e)).trans ((Heap.get?_update_other _ _ (lt e)).trans (up2 b u e))
  refine wpAny_pure ⟨plainId_quiet F.plain_extend_loop _, ?_⟩
  generalize (hq.update s.heap.objs.size (Obj.mapSeq (·.push Value.none))).update s.heap.objs.size (Obj.mapSeq (·.pop)) = hr at hS₄ up4
  refine zip_loop D o .none hn ?hA _ 0 { s with heap := hr } #[] _ rfl (Nat.zero_le _) ⟨hS₄, rfl, up4 _ _ hTI, ⟨_, up4 _ _ hTO⟩, h1.at fun u e => up4 _ u e, h2.at fun u e => up4 _ u e, hl1.at fun u e => up4 _ u e, hl2.at fun u e => up4 _ u e, .inl ⟨up4 _ _ hz, a, b, up4 _ _ hTO⟩, fun j hj => absurd hj (Nat.not_lt_zero _)⟩ fun h' tk acc c g1 g2 g3 g4 => ?_
  case hA => exact hA
  exact ⟨rfl, hQ h' tk acc c g1 g2 g3 fun b u b1 b2 b3 b4 e => g4 b u b1 b2 b3 b4 (lt e).symm (up4 b u e)⟩
end
end Kzip
end

section
set_option Elab.async false
set_option linter.all false
set_option maxRecDepth 100000
set_option maxHeartbeats 1000000
namespace Kzip
open PySem PySem.Spec PyProof.Rows L2
/-- what the keys of the dict may read as (True and 1 are one key) -/
def KeyD (d : PyData) : Prop := d = .str "a" ∨ d = .int 0 ∨ d = .bool false ∨ d = .none
/-- a value that is no object reads so, whatever the heap -/
def LeafRd (u : Value) (d : PyData) : Prop := ∀ h : Heap, Reads h u d []
/-- at d: a dict with the keys kds, its values ys -/
def dicO (d : Addr) (kds : List PyData) (ys : List V) : HO := .ext fun h => ∃ (o : Obj) (es : Array DictEntry) (n : Nat), h.get? d = some o ∧ o.cls = .type "dict" ∧ o.data = .dict es n ∧ Paired LeafRd (es.toList.map (·.key)) kds ∧ Vals ys (es.toList.map (·.val))
def keysV : List V := [.str "a", .int 0, .non]
def tDlz (ta tb : TE) : TE := fun σ H Q => ta σ H fun x H1 => tb σ H1 fun y H2 => ∃ (l1 l2 : Addr) (ys : List V), x = .ref l1 ∧ y = .ref l2 ∧ H2 l1 = some (.lst keysV) ∧ H2 l2 = some (.lst ys) ∧ ys.length ≤ 3 ∧
  ∀ (d : Addr) (kds : List PyData), H2 d = none → kds.length = ys.length → (∀ k ∈ kds, KeyD k) → Q (.ref d) (upd H2 d (dicO d kds ys))
theorem leaf_a {e : Value} (h : Leaf.isOf (.text "a") e = true) : ∃ d, KeyD d ∧ LeafRd e d := by
  cases e with
  | str x t =>
    have hx : x = "a" := by simpa [Leaf.isOf, Value.isStrOf] using h
    subst hx
    exact ⟨_, .inl rfl, fun _ => .str _ _⟩
  | _ => exact absurd h (by simp [Leaf.isOf, Value.isStrOf])
theorem leaf_0 {e : Value} (h : Leaf.isOf (.num 0) e = true) : ∃ d, KeyD d ∧ LeafRd e d := by
  cases e with
  | int j t =>
    have hx : j = 0 := by simpa [Leaf.isOf] using h
    subst hx
    exact ⟨_, .inr (.inl rfl), fun _ => .int _ _⟩
  | bool b =>
    cases b with
    | true => exact absurd h (by simp [Leaf.isOf])
    | false => exact ⟨_, .inr (.inr (.inl rfl)), fun _ => .bool _⟩
  | _ => exact absurd h (by simp [Leaf.isOf])
theorem leaf_n {e : Value} (h : Leaf.isOf .none e = true) : ∃ d, KeyD d ∧ LeafRd e d := by
  cases e with
  | none => exact ⟨_, .inr (.inr (.inr rfl)), fun _ => .none⟩
  | _ => exact absurd h (by simp [Leaf.isOf])
def leaf3 : List Leaf := [.text "a", .num 0, .none]
theorem leaf_any {k : Leaf} (hk : k ∈ leaf3) {e : Value} (h : Leaf.isOf k e = true) : ∃ d, KeyD d ∧ LeafRd e d := by
  unfold leaf3 at hk
  simp at hk
  rcases hk with rfl | rfl | rfl
  · exact leaf_a h
  · exact leaf_0 h
  · exact leaf_n h
/-- the entries of such a dict -/
theorem entries {P : Program} {w : World} : ∀ {es : List DictEntry} {kvs : List (Leaf × Value)}, Pairs (leafKind P w) es kvs → (∀ p ∈ kvs, p.1 ∈ leaf3) →
    ∃ kds : List PyData, Paired LeafRd (es.map (·.key)) kds ∧ (∀ k ∈ kds, KeyD k) ∧ kds.length = kvs.length ∧ es.map (·.val) = kvs.map (·.2)
  | _, _, .nil, _ => ⟨[], .nil, fun k h => absurd h (List.not_mem_nil), rfl, rfl⟩
  | _, _, .cons (e := e) (kv := kv) hk hv r, hm => by
    obtain ⟨kds, a, b, c, d⟩ := entries r fun p hp => hm p (List.mem_cons_of_mem _ hp)
    obtain ⟨k0, q1, q2⟩ := leaf_any (hm kv List.mem_cons_self) hk
    refine ⟨k0 :: kds, .cons q2 a, fun k hk => ?_, by simp [c], by simp [hv, d]⟩
    rcases List.mem_cons.mp hk with rfl | hk
    · exact q1
    · exact b k hk
theorem merged3 (ys : List Value) (h : ys.length ≤ 3) : merged ([] : List (Leaf × Value)) (leaf3.zip ys) = leaf3.zip ys := by
  match ys, h with
  | [], _ => rfl
  | [_], _ => rfl
  | [_, _], _ => simp [merged, stored, leaf3]
  | [_, _, _], _ => simp [merged, stored, leaf3]
  | _ :: _ :: _ :: _ :: _, h => simp at h
section
variable {X : Cx} {e1 e2 : Expr} {p1 p2 p3 p4 p5 p6 : Pos} {ta tb : TE}
theorem call1 {pins : List (Addr × Obj)} {σ : L2.St} {H : Hp} {s : Shared} {Q : Value → Shared → Prop} {x : Str} {T : String} {e : Expr} {p pos : Pos} (I : Inv X pins σ H s) (hg : Gl X x) (hm : X.mg x = none) (hv : bootBuiltins x = some (.type T))
    (h : wpAny (model X.prog X.w) X.A (eval e X.env) (fun u s1 => wpAny (model X.prog X.w) X.A (call (.type T) [u]) Q X.xe s1) X.xe s)
    (hn : x ≠ "__name__" := by decide) (hdb : (x == ("__debug__" : Str)) = false := by decide) (he : starEach (e :: []) X.env = (false, eval e X.env) :: starEach [] X.env := by rfl) (hpl : (backTo pos (starEach [] X.env)).any (·.1) = false := by rfl) :
    wpAny (model X.prog X.w) X.A (eval (.Call (.Name x p) [e] [] pos) X.env) Q X.xe s := by
  refine wpAny_Call_Name_kw (ld_blt I hg hm hv ?_ hn hdb)
  refine PyProof.Rows.callWith_type1 ?_ he hpl
  rw [he]
  exact Calls.spliced_cons (thn h fun u s1 q => Calls.spliced_nil q)
theorem pe_dlz (hc : X.calm = true) (gd : Gl X "dict") (md : X.mg "dict" = none) (gl : Gl X "list") (ml : X.mg "list" = none) (gz : Gl X "zip") (mz : X.mg "zip" = none) (h1 : PE X e1 ta) (h2 : PE X e2 tb)
    (he0 : starEach [.Call (.Name "list" p2) [.Call (.Name "zip" p3) [e1, e2] [] p4] [] p5] X.env = (false, eval (.Call (.Name "list" p2) [.Call (.Name "zip" p3) [e1, e2] [] p4] [] p5) X.env) :: starEach [] X.env := by rfl)
    (he1 : starEach [.Call (.Name "zip" p3) [e1, e2] [] p4] X.env = (false, eval (.Call (.Name "zip" p3) [e1, e2] [] p4) X.env) :: starEach [] X.env := by rfl)
    (he2 : starEach (e1 :: [e2]) X.env = (false, eval e1 X.env) :: starEach [e2] X.env := by rfl) (he3 : starEach (e2 :: []) X.env = (false, eval e2 X.env) :: starEach [] X.env := by rfl)
    (hp2 : (backTo p4 (starEach [e2] X.env)).any (·.1) = false := by rfl) (hp1 : (backTo p5 (starEach [] X.env)).any (·.1) = false := by rfl) (hp0 : (backTo p6 (starEach [] X.env)).any (·.1) = false := by rfl) :
    PE X (.Call (.Name "dict" p1) [.Call (.Name "list" p2) [.Call (.Name "zip" p3) [e1, e2] [] p4] [] p5] [] p6) (tDlz ta tb) := by
  refine ⟨fun pins s σ H Q I h => ?_⟩
  refine call1 I gd md boot_dict (call1 I gl ml boot_list ?_ (he := he1) (hpl := hp1)) (he := he0) (hpl := hp0)
  refine wpAny_Call_Name_kw (ld_blt I gz mz boot_zip ?_)
  refine PyProof.Rows.callWith_type1 (thn ((pa_cons h1 (pa_cons h2 pa_nil he3) he2).run p4 pins s σ H (fun vs H2 => match vs with
    | [x, y] => ∃ (l1 l2 : Addr) (ys : List V), x = .ref l1 ∧ y = .ref l2 ∧ H2 l1 = some (.lst keysV) ∧ H2 l2 = some (.lst ys) ∧ ys.length ≤ 3 ∧
        ∀ (d : Addr) (kds : List PyData), H2 d = none → kds.length = ys.length → (∀ k ∈ kds, KeyD k) → Q (.ref d) (upd H2 d (dicO d kds ys))
    | _ => False) I h) ?_) he2 hp2
  intro us s2 hh
  obtain ⟨vs, H2, I2, r2, q0⟩ := hh
  match vs, r2, q0 with
  | [x, y], .cons ra (.cons rb .nil), q0 =>
    obtain ⟨l1, l2, ys, rfl, rfl, g1, g2, g3, q⟩ := q0
    cases ra
    cases rb
    obtain ⟨_, its1, n1, v1, o1⟩ : keysV.length ≤ sizeLine ∧ ∃ (its : List Value) (n : Nat), Vals keysV its ∧ s2.heap.get? l1 = some { cls := .type "list", data := .seq its.toArray n } := I2.hok l1 _ g1
    obtain ⟨_, its2, n2, v2, o2⟩ : ys.length ≤ sizeLine ∧ ∃ (its : List Value) (n : Nat), Vals ys its ∧ s2.heap.get? l2 = some { cls := .type "list", data := .seq its.toArray n } := I2.hok l2 _ g2
    have il1 : s2.heap.IsList l1 its1.toArray := ⟨_, o1, rfl, _, rfl⟩
    have il2 : s2.heap.IsList l2 its2.toArray := ⟨_, o2, rfl, _, rfl⟩
    have z1 : its1.length = 3 := v1.length.symm
    have z2 : its2.length = ys.length := v2.length.symm
    have hA : X.A.handled = none := I2.ok.hd hc
    have hmin : min its1.toArray.size its2.toArray.size = ys.length := by simp [z1, z2]; omega
    have lt : ∀ {b u}, s2.heap.get? b = some u → b < s2.heap.objs.size := fun e => Heap.lt_size e
    have n1l : @LT.lt Nat _ l1 s2.heap.objs.size := lt o1
    have n2l : @LT.lt Nat _ l2 s2.heap.objs.size := lt o2
    generalize hN : s2.heap.objs.size = N at n1l n2l
    refine call_zip_2 il1 il2 fun h1' a1 a2 a3 a4 a5 a6 k1 => ?_
    rw [hN] at a1 a2 a3 a4 a5 a6
    rw [hN]
    have D : ZipApart (N + 4) (N + 2) (N + 3) N (N + 1) l1 l2 := by
      constructor <;> (intro e; have e' : @Eq Nat _ _ := e; omega)
    refine list_of_zip D (by omega) hA a1 a2 a3 a4 a5 (il1.at fun u e => k1 _ u e) (il2.at fun u e => k1 _ u e) fun h2' tk2 acc c b1 b2 b3 k2 => ?_
    have hps : (its1.zip its2).length = ys.length := by rw [List.length_zip, z1, z2]; omega
    have items : PairItems h2' acc (fun j => match acc[j]? with | some (.ref T) => T | _ => 0) (its1.zip its2) := by
      refine ⟨by rw [b2, hmin, hps], fun j k v e => ?_⟩
      have hj : j < ys.length := by
        rw [← hps]
        exact (List.getElem?_eq_some_iff.mp e).1
      obtain ⟨T, x, y, c1, c2, c3, c4⟩ := b3 j (by rw [hmin]; exact hj)
      have ez := List.getElem?_zip_eq_some.mp e
      have ek : k = x := by
        have q : its1[j]? = some x := by simpa using c2
        exact Option.some.inj (ez.1.symm.trans q)
      have ev : v = y := by
        have q : its2[j]? = some y := by simpa using c3
        exact Option.some.inj (ez.2.symm.trans q)
      subst ek ev
      refine ⟨?_, ?_⟩
      · show acc[j]? = some (.ref (match acc[j]? with | some (.ref T) => T | _ => 0))
        rw [c1]
      · show PairAt h2' (match acc[j]? with | some (.ref T) => T | _ => 0) k v
        rw [c1]
        exact .inl ⟨_, c4, rfl, _, rfl⟩
    have have3 : PairsHave (leafKind X.prog X.w) (its1.zip its2).length (PairRel (its1.zip its2)) (leaf3.zip its2) := by
      refine ⟨by rw [hps, List.length_zip, z2]; show min 3 ys.length = ys.length; omega, fun i key v e => ?_⟩
      have ez := List.getElem?_zip_eq_some.mp e
      have hi : i < 3 := by
        rw [← z1]
        exact (List.getElem?_eq_some_iff.mp ez.1).1
      obtain ⟨k0, hk0, hk1⟩ : ∃ k0, leaf3[i]? = some k0 ∧ Leaf.isOf k0 key = true := by
        match its1, v1, z1 with
        | [u0, u1, u2], .cons r0 (.cons r1 (.cons r2 .nil)), _ =>
          obtain ⟨t0, rfl⟩ := r0
          obtain ⟨t1, rfl⟩ := r1
          have r2' : u2 = Value.none := r2
          subst r2'
          match i, hi with
          | 0, _ =>
            have q : Value.str "a" t0 = key := Option.some.inj ez.1
            subst q
            exact ⟨_, rfl, by simp [Leaf.isOf, Value.isStrOf]⟩
          | 1, _ =>
            have q : Value.int 0 t1 = key := Option.some.inj ez.1
            subst q
            exact ⟨_, rfl, by simp [Leaf.isOf]⟩
          | 2, _ =>
            have q : Value.none = key := Option.some.inj ez.1
            subst q
            exact ⟨_, rfl, rfl⟩
      exact ⟨k0, List.getElem?_zip_eq_some.mpr ⟨hk0, ez.2⟩, hk1⟩
    have big : (1000 : Nat) ≤ sizeLine := by decide
    refine PySem.call_dict_pairs (knd := leafKind X.prog X.w) (PairArg.list h1'.objs.size acc (fun j => match acc[j]? with | some (.ref T) => T | _ => 0) (its1.zip its2)) hA ⟨⟨_, _, b1, rfl, rfl, rfl⟩, items⟩ have3 (by rw [hps]; omega) fun h3' tk3 hd k3 => ?_
    rw [merged3 its2 (by omega)] at hd
    obtain ⟨o, es, ep, e1, ⟨ec, _⟩, ed, _, epairs, _⟩ := hd
    obtain ⟨kds, q1, q2, q3, q4⟩ := entries epairs fun p hp => (List.of_mem_zip hp).1
    have hz3 : (leaf3.zip its2).map (·.2) = its2 := List.map_snd_zip (by rw [z2]; exact g3)
    have all : ∀ b u, s2.heap.get? b = some u → h3'.get? b = some u := fun b u e => by
      have hb : @LT.lt Nat _ b N := by
        rw [← hN]
        exact lt e
      have ne : ∀ m : Nat, b ≠ N + m := fun m z => by
        have z' : @Eq Nat b (N + m) := z
        omega
      exact k3 b u (List.not_mem_nil) (k2 b u (ne 4) (ne 3) (ne 0) (ne 1) (k1 b u e))
    have fresh : @LE.le Nat _ s2.heap.objs.size h2'.objs.size := by
      have hlt := Heap.lt_size b1
      rw [hN]
      have h5 : @LT.lt Nat _ h1'.objs.size h2'.objs.size := hlt
      omega
    have hnone : H2 h2'.objs.size = none := I2.hok.fresh fresh
    refine ⟨.ref h2'.objs.size, upd H2 h2'.objs.size (dicO h2'.objs.size kds ys), I2.laid (t' := tk3) all fresh ?_, rfl, q _ kds hnone (by rw [q3, List.length_zip, z2]; show min 3 ys.length = ys.length; omega) q2⟩
    refine ⟨⟨o, es, ep, e1, ec, ed, q1, ?_⟩, ⟨o, e1⟩, fun ha hb hh kk => ?_⟩
    · rw [q4, hz3]
      exact v2
    · obtain ⟨o', es', n', w1, w2⟩ := hh
      exact ⟨o', es', n', kk _ w1, w2⟩
end
end Kzip
end

section
set_option Elab.async false
set_option linter.all false
set_option maxRecDepth 100000
set_option maxHeartbeats 1000000
namespace Kzero
open PySem L2
/-! ### what a drawn value is -/
mutual
/-- v reads as the datum in H; N holds of each address of it -/
inductive Tr (N : Addr → Prop) (H : Hp) : V → PyData → Prop
  | non : Tr N H .non .none
  | bl (b : Bool) : Tr N H (.bl b) (.bool b)
  | int (i : Int) : Tr N H (.int i) (.int i)
  | str (x : Str) : Tr N H (.str x) (.str x)
  | lst {a : Addr} {xs : List V} {ds : List PyData} : N a → H a = some (.lst xs) → TrAll N H xs ds → Tr N H (.ref a) (.list ds)
  | tup {a : Addr} {xs : List V} {ds : List PyData} : N a → H a = some (.tup xs) → TrAll N H xs ds → Tr N H (.ref a) (.tuple ds)
  | dict {a : Addr} {kds : List PyData} {xs : List V} {ds : List PyData} : N a → H a = some (Kzip.dicO a kds xs) → kds.length = xs.length → (∀ k ∈ kds, Kzip.KeyD k) → TrAll N H xs ds → Tr N H (.ref a) (.dict (kds.zip ds))
inductive TrAll (N : Addr → Prop) (H : Hp) : List V → List PyData → Prop
  | nil : TrAll N H [] []
  | cons {v : V} {vs : List V} {d : PyData} {ds : List PyData} : Tr N H v d → TrAll N H vs ds → TrAll N H (v :: vs) (d :: ds)
end
theorem TrAll.length {N : Addr → Prop} {H : Hp} : ∀ {vs : List V} {ds : List PyData}, TrAll N H vs ds → vs.length = ds.length
  | _, _, .nil => rfl
  | _, _, .cons _ r => by simp [r.length]
mutual
theorem Tr.move {N N' : Addr → Prop} {H H' : Hp} (hn : ∀ a, N a → N' a) (hk : ∀ a o, N a → H a = some o → H' a = some o) : ∀ (d : PyData) (v : V), Tr N H v d → Tr N' H' v d
  | .none, _, .non => .non
  | .bool _, _, .bl b => .bl b
  | .int _, _, .int i => .int i
  | .str _, _, .str x => .str x
  | .list ds, _, .lst n e r => .lst (hn _ n) (hk _ _ n e) (TrAll.move hn hk ds _ r)
  | .tuple ds, _, .tup n e r => .tup (hn _ n) (hk _ _ n e) (TrAll.move hn hk ds _ r)
  | .dict _, _, .dict (ds := ds) n e z q r => .dict (hn _ n) (hk _ _ n e) z q (TrAll.move hn hk ds _ r)
theorem TrAll.move {N N' : Addr → Prop} {H H' : Hp} (hn : ∀ a, N a → N' a) (hk : ∀ a o, N a → H a = some o → H' a = some o) : ∀ (ds : List PyData) (vs : List V), TrAll N H vs ds → TrAll N' H' vs ds
  | [], _, .nil => .nil
  | d :: ds, _, .cons a r => .cons (Tr.move hn hk d _ a) (TrAll.move hn hk ds _ r)
end
theorem TrAll.snoc {N : Addr → Prop} {H : Hp} {v : V} {d : PyData} (h : Tr N H v d) : ∀ {vs : List V} {ds : List PyData}, TrAll N H vs ds → TrAll N H (vs ++ [v]) (ds ++ [d])
  | _, _, .nil => .cons h .nil
  | _, _, .cons a r => .cons a (r.snoc h)
end Kzero
end

section
set_option Elab.async false
set_option linter.all false
set_option maxRecDepth 100000
set_option maxHeartbeats 1000000
namespace Kzero
open PySem L2
def words : List Str := ["", "a", "zz", "set a 1", "A b", "0"]
/-- a drawn datum, at most n deep -/
inductive Sm : Nat → PyData → Prop
  | non (n : Nat) : Sm n .none
  | bl (n : Nat) (b : Bool) : Sm n (.bool b)
  | int (n : Nat) (i : Int) : i.natAbs < 2000 → Sm n (.int i)
  | str (n : Nat) (x : Str) : x ∈ words → Sm n (.str x)
  | list (n : Nat) (ds : List PyData) : ds.length ≤ 3 → (∀ d ∈ ds, Sm n d) → Sm (n + 1) (.list ds)
  | tuple (n : Nat) (ds : List PyData) : ds.length ≤ 3 → (∀ d ∈ ds, Sm n d) → Sm (n + 1) (.tuple ds)
  | dict (n : Nat) (kds ds : List PyData) : ds.length ≤ 3 → kds.length = ds.length → (∀ k ∈ kds, Kzip.KeyD k) → (∀ d ∈ ds, Sm n d) → Sm (n + 1) (.dict (kds.zip ds))
def cost : Nat → Int
  | 0 => 3
  | n + 1 => 2 + 3 * cost n
theorem cost_pos : ∀ n, 3 ≤ cost n
  | 0 => by decide
  | n + 1 => by
    have := cost_pos n
    show 3 ≤ 2 + 3 * cost n
    omega
abbrev Free (H : Hp) : Addr → Prop := fun a => H a = none
def spVal (n : Nat) : Sp := fun vs H Q _ => ∃ (p : Addr) (m : Int), vs = [.ref p, .int n] ∧ PotAt H p m ∧ m + cost n ≤ 100000 ∧
  ∀ (v : V) (d : PyData) (m' : Int) (H' : Hp), Tr (Free H) H' v d → Sm n d → m ≤ m' → m' ≤ m + cost n → PotAt H' p m' → But p H H' → Q v H'
theorem But.free {p : Addr} {H H' : Hp} {m : Int} (b : But p H H') (hp : PotAt H' p m) {a : Addr} (h : H' a = none) : H a = none := by
  cases e : H a with
  | none => rfl
  | some o =>
    by_cases q : a = p
    · obtain ⟨_, _, e', _⟩ := hp
      rw [q, e'] at h
      cases h
    · rw [b a o e q] at h
      cases h
structure TxtV (K : PySem.W.Frag) (mg : Str → Option Value) (fT fO fV : Addr) : Prop where
  gT : mg "_law_take" = some (.ref fT)
  kT : PySem.W.keepIn K (.ref fT) = true
  gO : mg "_law_of" = some (.ref fO)
  kO : PySem.W.keepIn K (.ref fO) = true
  gV : mg "_law_value" = some (.ref fV)
  kV : PySem.W.keepIn K (.ref fV) = true
  len : mg "len" = none
  range : mg "range" = none
  dict : mg "dict" = none
  list : mg "list" = none
  zip : mg "zip" = none
  tuple : mg "tuple" = none
section
variable {P : Program} {w : World} {K : PySem.W.Frag} {mg : Str → Option Value} {base : Heap}
theorem scOf : FnScope ["_law_pot_here", "_law_some"] ["_law_pot_here", "_law_some"] (defScope sOf) := ⟨rfl, rfl, rfl, by decide +kernel, rfl, by decide +kernel, by decide +kernel⟩
theorem ok_of {f fT fV : Addr} {fd fdT : FuncData} (F : Fun K "_law_of" "_law_of" sOf f fd) (T : TxtV K mg fT f fV) (GT : FnOk P w K mg base CX0 1 fT fdT ["_law_pot_here", "_law_upto"] spTake) (bT : Binds K fdT ["_law_pot_here", "_law_upto"] []) :
    FnOk P w K mg base CX0 2 f fd ["_law_pot_here", "_law_some"] spOf := by
  refine F.ok scOf (fun vs H Q E h => ?_) (fun cdv A outer s H vs Q E hr h => ?_)
  · obtain ⟨p, l, n, xs, rfl, _⟩ := h
    rfl
  · obtain ⟨p, l, n, xs, rfl, hp, hl, nlp, hx0, hx1, hn, q⟩ := h
    refine ⟨_, pss_one (ps_ret (pe_ix ix_list (pv 1) (pe_call GT hr rfl T.gT T.kT bT .nil pass0 (pa_cons (pv 0) (pa_cons (pe_callB call_len_seq (by rfl) T.len PySem.boot_len (pa_cons (pv 1) pa_nil)) pa_nil))) (fun _ _ => rfl))), ?_⟩
    refine ⟨_, rfl, _, rfl, _, rfl, l, xs, rfl, Or.inl (SqL.of hl), p, _, n, rfl, hp, (by omega), (by omega), hn, fun r n' H' hr0 hr1 hn0 hn1 hp' hb => ?_⟩
    obtain ⟨j, ej⟩ : ∃ j : Nat, r = (j : Int) := ⟨r.toNat, by omega⟩
    have hj : j < xs.length := by omega
    exact ⟨l, xs, _, xs[j], rfl, rfl, SqL.of (hb l _ hl nlp), at_of (j := j) ej (List.getElem?_eq_getElem hj), q _ n' H' (List.getElem_mem hj) hn0 hn1 hp' hb⟩
end
end Kzero
end

section
set_option Elab.async false
set_option linter.all false
set_option maxRecDepth 100000
set_option maxHeartbeats 1000000
namespace Kzero
open PySem L2
abbrev nmV : List Str := ["_law_pot_here", "_law_deep", "_law_pick", "_law_parts", "_law_turn"]
theorem pot_of {H H' : Hp} {p : Addr} {n : Int} (h : PotAt H p n) (e : H' p = H p) : PotAt H' p n := by
  obtain ⟨own, x, hp, r⟩ := h
  exact ⟨own, x, e.trans hp, r⟩
theorem pot_new {H : Hp} {p l : Addr} {n : Int} {o : HO} (h : PotAt H p n) (hl : H l = none) : PotAt (upd H l o) p n := by
  refine pot_of h (upd_ne ?_)
  obtain ⟨_, _, hp, _⟩ := h
  exact ne_of_none hp hl
theorem pot_ne {H : Hp} {p l : Addr} {n : Int} (h : PotAt H p n) (hl : H l = none) : p ≠ l := by
  obtain ⟨_, _, hp, _⟩ := h
  exact ne_of_none hp hl
section
variable {P : Program} {w : World} {K : PySem.W.Frag} {mg : Str → Option Value} {base : Heap}
theorem scVal : FnScope nmV ["_law_pot_here", "_law_deep"] (defScope sValue) := ⟨rfl, rfl, rfl, by decide +kernel, rfl, by decide +kernel, by decide +kernel⟩
/-- what stands behind the two first ifs of _law_value -/
def RestOk (P : Program) (w : World) (K : PySem.W.Frag) (mg : Str → Option Value) (base : Heap) (f : Addr) (n : Nat) : Prop :=
  ∀ (cdv : Value) (A : Around) (outer : List Env) (s : Shared) (H : Hp) (E : XK) (p : Addr) (m : Int) (Q : VK), Room (n + 2) (A.deeper (PyProof.Rows.envOfC "_law_value" (defScope sValue) s.heap.objs.size f cdv)) → PotAt H p m → m + cost n ≤ 100000 →
    (∀ (v : V) (d : PyData) (m' : Int) (H' : Hp), Tr (Free H) H' v d → Sm n d → m ≤ m' → m' ≤ m + cost n → PotAt H' p m' → But p H H' → Q v H') →
    ∃ tr : TS, PSs (cxOf CX0 P w K mg base nmV "_law_value" (defScope sValue) f cdv A outer s H E).nox ((defBody sValue).drop 3) tr ∧
      ∀ (r m1 : Int) (H1 : Hp), (n = 0 → r < 6) → 6 ≤ r → r < 9 → PotAt H1 p m1 → m ≤ m1 → m1 ≤ m + 1 → But p H H1 → tr { nx := fun _ H' => Q .non H', rt := Q } [some (.ref p), some (.int n), some (.int r), none, none] H1
theorem rest_zero {f : Addr} : RestOk P w K mg base f 0 := fun _ _ _ _ _ _ _ _ _ _ _ _ _ =>
  ⟨tNever, pss_never, fun r m1 H1 h0 h6 _ _ _ _ _ => absurd (h0 rfl) (by omega)⟩
theorem mulc (i : Nat) (c : Int) : ((i + 1 : Nat) : Int) * c = (i : Int) * c + c := by
  rw [Int.natCast_add, Int.add_mul]
  simp
theorem rest_succ {f fT fO : Addr} {fd fdT : FuncData} (bV : Binds K fd ["_law_pot_here", "_law_deep"] []) (T : TxtV K mg fT fO f)
    (GT : FnOk P w K mg base CX0 1 fT fdT ["_law_pot_here", "_law_upto"] spTake) (bT : Binds K fdT ["_law_pot_here", "_law_upto"] []) {n : Nat}
    (GV : FnOk P w K mg base CX0 (n + 3) f fd ["_law_pot_here", "_law_deep"] (spVal n)) : RestOk P w K mg base f (n + 1) := by
  intro cdv A outer s H E p m Q hr hp hm q
  have hr1 : Room 1 _ := hr.mono (by omega)
  have hrV : Room (n + 3) _ := hr.mono (by omega)
  refine ⟨_, pss_cons (ps_setLc (i := 3) (own := [("_law_turn", 4)]) (g := gName 4) (tt := tYes) rfl scVal.nd rfl rfl (sw_true rfl rfl rfl (by decide +kernel))
      (pi_range1 rfl T.range (pa_cons (pe_call GT hr1 rfl T.gT T.kT bT .nil pass0 (pa_cons (pv 0) (pa_cons pe_int pa_nil))) pa_nil)) (blkOk_by (N := nmV) (sc := defScope sValue) (by decide +kernel))
      (fun _ _ _ _ _ => pg_name (i := 4) scVal.nd rfl (Or.inl rfl)) (fun _ _ _ _ _ => pts_nil)
      (fun _ _ _ _ _ => pe_call GV hrV rfl T.gV T.kV bV .nil pass0 (pa_cons (pv 0) (pa_cons (pe_op op_sub (pv 1) pe_int) pa_nil))))
    (pss_cons (ps_if (pt_cmpR op_eq (pv 2) pe_int (nomark _)) (pss_one (ps_ret (Kzip.pe_dlz rfl (by rfl) T.dict (by rfl) T.list (by rfl) T.zip (pe_lst (pa_cons pe_str (pa_cons pe_int (pa_cons pe_non pa_nil)))) (pv 3)))) pss_nil)
    (pss_one (ps_ret (pe_ifExp (pt_cmpR op_eq (pv 2) pe_int (nomark _)) (pv 3) (pe_callTy call_tuple_of (by rfl) T.tuple (by decide +kernel) (pa_cons (pv 3) pa_nil)))))), ?_⟩
  intro r m1 H1 _ hr6 hr9 hp1 hm0 hm1 b1
  have c0 := cost_pos n
  have c1 : cost (n + 1) = 2 + 3 * cost n := rfl
  refine ⟨_, rfl, p, 4, m1, rfl, hp1, by decide, by decide, by omega, fun k m2 H2 hk0 hk1 hm2 hm3 hp2 b2 => ?_⟩
  refine ⟨_, rfl, by omega, by omega, fun D hD => ?_⟩
  have nDp : p ≠ D := pot_ne hp2 hD
  have b02 : But p H H2 := b1.trans b2
  refine lc_range (lo := 0) (n := k.toNat) (fun i H' => ∃ (vs : List V) (ds : List PyData) (m' : Int), H' D = some (.lst vs) ∧ vs.length = i ∧ TrAll (fun a => H2 a = none ∧ a ≠ D) H' vs ds ∧ (∀ d ∈ ds, Sm n d) ∧ PotAt H' p m' ∧ m2 ≤ m' ∧ m' ≤ m2 + (i : Int) * cost n ∧ But p H2 H')
    ⟨[], [], m2, upd_same, rfl, .nil, fun d h => absurd h List.not_mem_nil, pot_new hp2 hD, Int.le_refl _, by simp, But.same (same_new hD)⟩ ?_ ?_
  · rintro i H' hi ⟨vs, ds, m', hDv, hlen, htr, hsm, hp', hm4, hm5, hb'⟩
    have hi3 : i < 3 := by omega
    have ci : (i : Int) * cost n ≤ 2 * cost n := Int.mul_le_mul_of_nonneg_right (by omega) (by omega)
    refine ⟨rfl, ?_⟩
    refine ⟨_, rfl, _, rfl, _, _, rfl, rfl, p, m', ?_, hp', by omega, fun v d m'' H4 hv hd hm6 hm7 hp4 hb4 => ?_⟩
    · show [V.ref p, V.int (((n + 1 : Nat) : Int) - 1)] = [V.ref p, V.int (n : Int)]
      have e : ((n + 1 : Nat) : Int) - 1 = (n : Int) := by omega
      rw [e]
    · have hfree : ∀ a, H' a = none → H2 a = none ∧ a ≠ D := fun a ha => ⟨hb'.free hp' ha, fun e => by
        rw [e, hDv] at ha
        cases ha⟩
      have hpD : ∀ a, H2 a = none → a ≠ p := fun a ha e => by
        obtain ⟨_, _, e', _⟩ := hp2
        rw [e, e'] at ha
        cases ha
      have hD4 : H4 D = some (.lst vs) := hb4 D _ hDv nDp.symm
      refine ⟨vs, hD4, ?_, vs ++ [v], ds ++ [d], m'', upd_same, by simp [hlen], ?_, ?_, pot_of hp4 (upd_ne nDp), by omega, ?_, ?_⟩
      · rw [hlen]
        have big : (1000 : Nat) < sizeLine := by decide
        omega
      · refine TrAll.snoc (Tr.move (fun a ha => hfree a ha) (fun a o ha e => ?_) d v hv) (TrAll.move (fun a ha => ha) (fun a o ha e => ?_) ds vs htr)
        · rw [upd_ne (hfree a ha).2]
          exact e
        · rw [upd_ne ha.2]
          exact hb4 a o e (hpD a ha.1)
      · intro x hx
        rcases List.mem_append.mp hx with hx | hx
        · exact hsm x hx
        · rw [List.mem_singleton.mp hx]
          exact hd
      · rw [mulc]
        omega
      · intro b o e nb
        rw [upd_ne (ne_of_none e hD)]
        exact hb4 b o (hb' b o e nb) nb
  · rintro H' ⟨vs, ds, m', hDv, hlen, htr, hsm, hp', hm4, hm5, hb'⟩
    have hk3 : k.toNat ≤ 3 := by omega
    have ck : ((k.toNat : Nat) : Int) * cost n ≤ 3 * cost n := Int.mul_le_mul_of_nonneg_right (by omega) (by omega)
    have hv3 : vs.length ≤ 3 := by omega
    have hd3 : ds.length ≤ 3 := by rw [← htr.length]; exact hv3
    have b0 : But p H H' := b02.trans hb'
    have fr : ∀ a, H' a = none → H a = none := fun a ha => b0.free hp' ha
    have fr2 : ∀ a, H2 a = none → H a = none := fun a ha => b02.free hp2 ha
    refine ⟨_, rfl, rfl, _, rfl, ite2 (fun h8 => ?_) (fun _ => ?_)⟩
    · -- a dict
      refine ⟨(by show 3 ≤ sizeLine; decide), fun l hl => ?_⟩
      have nDl : D ≠ l := ne_of_none hDv hl
      refine ⟨_, rfl, l, D, vs, rfl, rfl, upd_same, (by rw [upd_ne nDl]; exact hDv), hv3, fun d kds hd hkl hkd => ?_⟩
      have hd' : H' d = none := (same_new hl).free hd
      have old : ∀ a o, H' a = some o → upd (upd H' l (.lst Kzip.keysV)) d (Kzip.dicO d kds vs) a = some o := fun a o e => by
        rw [upd_ne (ne_of_none e hd'), upd_ne (ne_of_none e hl)]
        exact e
      refine q (.ref d) (.dict (kds.zip ds)) m' _ (.dict (fr d hd') upd_same hkl hkd (TrAll.move (fun a ha => fr2 a ha.1) (fun a o ha e => old a o e) ds vs htr)) (.dict n kds ds hd3 (by rw [hkl]; exact htr.length) hkd hsm) (by omega) (by omega) (pot_new (pot_new hp' hl) hd) (b0.trans (But.same fun a o e => old a o e))
    · refine ⟨_, rfl, rfl, _, rfl, ite2 (fun h6 => ?_) (fun _ => ?_)⟩
      · exact ⟨_, rfl, q (.ref D) (.list ds) m' _ (.lst (fr2 D hD) hDv (TrAll.move (fun a ha => fr2 a ha.1) (fun a o ha e => e) ds vs htr)) (.list n ds hd3 hsm) (by omega) (by omega) hp' b0⟩
      · refine ⟨_, rfl, D, vs, rfl, Or.inl ⟨SqL.of hDv, fun l hl => ?_⟩⟩
        have old : ∀ a o, H' a = some o → upd H' l (.tup vs) a = some o := fun a o e => by
          rw [upd_ne (ne_of_none e hl)]
          exact e
        exact q (.ref l) (.tuple ds) m' _ (.tup (fr l hl) upd_same (TrAll.move (fun a ha => fr2 a ha.1) (fun a o ha e => old a o e) ds vs htr)) (.tuple n ds hd3 hsm) (by omega) (by omega) (pot_new hp' hl) (b0.trans (But.same fun a o e => old a o e))
theorem ok_val_of {f fT fO : Addr} {fd fdT fdO : FuncData} (F : Fun K "_law_value" "_law_value" sValue f fd) (T : TxtV K mg fT fO f)
    (GT : FnOk P w K mg base CX0 1 fT fdT ["_law_pot_here", "_law_upto"] spTake) (bT : Binds K fdT ["_law_pot_here", "_law_upto"] [])
    (GO : FnOk P w K mg base CX0 2 fO fdO ["_law_pot_here", "_law_some"] spOf) (bO : Binds K fdO ["_law_pot_here", "_law_some"] []) {n : Nat} (R : RestOk P w K mg base f n) :
    FnOk P w K mg base CX0 (n + 3) f fd ["_law_pot_here", "_law_deep"] (spVal n) := by
  refine F.ok scVal (fun vs H Q E h => ?_) (fun cdv A outer s H vs Q E hr h => ?_)
  · obtain ⟨p, m, rfl, _⟩ := h
    rfl
  · obtain ⟨p, m, rfl, hp, hm, q⟩ := h
    obtain ⟨tr, hR, rd⟩ := R cdv A outer s H E p m Q hr hp hm q
    have hr1 : Room 1 _ := hr.mono (by omega)
    have hr2 : Room 2 _ := hr.mono (by omega)
    refine ⟨_, pss_cons (ps_set (i := 2) scVal.nd rfl (Or.inl rfl) (pe_call GT hr1 rfl T.gT T.kT bT .nil pass0 (pa_cons (pv 0) (pa_cons (pe_ifExp (pt_cmpR op_gt (pv 1) pe_int (nomark _)) pe_int pe_int) pa_nil))))
      (pss_cons (ps_if (pt_cmpR op_lt (pv 2) pe_int (nomark _)) (pss_one (ps_ret (pe_ix ix_list (pe_lst (pa_cons pe_non (pa_cons pe_bl (pa_cons pe_bl (pa_cons pe_str pa_nil))))) (pv 2) (fun _ _ => rfl)))) pss_nil)
      (pss_cons (ps_if (pt_cmpR op_lt (pv 2) pe_int (nomark _)) (pss_one (ps_ret (pe_ix ix_list (pe_lst (pa_cons (pe_op op_sub (pe_call GT hr1 rfl T.gT T.kT bT .nil pass0 (pa_cons (pv 0) (pa_cons pe_int pa_nil))) pe_int)
          (pa_cons (pe_call GO hr2 rfl T.gO T.kO bO .nil pass0 (pa_cons (pv 0) (pa_cons (pe_lst (pa_cons pe_str (pa_cons pe_str (pa_cons pe_str (pa_cons pe_str (pa_cons pe_str pa_nil)))))) pa_nil))) pa_nil))) (pe_op op_sub (pv 2) pe_int) (fun _ _ => rfl)))) pss_nil)
        hR)), ?_⟩
    have c0 := cost_pos n
    refine ⟨_, rfl, _, rfl, _, _, rfl, rfl, _, rfl, ?_⟩
    refine ite2 (fun hn => ?pos) (fun hn => ?neg)
    case' pos =>
      have hn1 : (0 : Int) < (n : Int) := of_decide_eq_true hn
      refine ⟨p, 9, m, rfl, hp, by decide, by decide, by omega, fun r m1 H1 hr0 hrl hm0 hm1 hp1 b1 => ?_⟩
      have hr9 : r < 9 := hrl
      have hz : n = 0 → r < 6 := fun e => absurd e (by omega)
    case' neg =>
      have hn1 : ¬ (0 : Int) < (n : Int) := fun e => hn (decide_eq_true e)
      refine ⟨p, 6, m, rfl, hp, by decide, by decide, by omega, fun r m1 H1 hr0 hrl hm0 hm1 hp1 b1 => ?_⟩
      have hr9 : r < 9 := by omega
      have hz : n = 0 → r < 6 := fun e => hrl
    all_goals
      obtain ⟨j, ej⟩ : ∃ j : Nat, r = (j : Int) := ⟨r.toNat, by omega⟩
      refine ⟨_, rfl, _, _, rfl, rfl, _, rfl, ite2 (fun h4 => ?_) (fun h4 => ?_)⟩
      · have h4' : r < 4 := of_decide_eq_true h4
        refine ⟨(by show 4 ≤ sizeLine; decide), fun l hl => ?_⟩
        have fin : ∀ (v : V) (d : PyData), Tr (Free H) (upd H1 l (.lst [V.non, V.bl true, V.bl false, V.str ""])) v d → Sm n d → Q v (upd H1 l (.lst [V.non, V.bl true, V.bl false, V.str ""])) := fun v d ht hs =>
          q v d m1 _ ht hs (by omega) (by omega) (pot_new hp1 hl) (b1.trans (But.same (same_new hl)))
        have hj : j < 4 := by omega
        obtain ⟨v, d, hv, ht, hs⟩ : ∃ (v : V) (d : PyData), ([V.non, V.bl true, V.bl false, V.str ""] : List V)[j]? = some v ∧ (∀ N H', Tr N H' v d) ∧ Sm n d := by
          match j, hj with
          | 0, _ => exact ⟨_, _, rfl, fun _ _ => .non, .non n⟩
          | 1, _ => exact ⟨_, _, rfl, fun _ _ => .bl true, .bl n true⟩
          | 2, _ => exact ⟨_, _, rfl, fun _ _ => .bl false, .bl n false⟩
          | 3, _ => exact ⟨_, _, rfl, fun _ _ => .str "", .str n "" (by unfold words; simp)⟩
        exact ⟨_, rfl, l, _, _, v, rfl, rfl, SqL.of upd_same, at_of (j := j) ej hv, fin v d (ht _ _) hs⟩
      · have h4' : ¬ r < 4 := fun e => h4 (decide_eq_true e)
        refine ⟨_, rfl, _, _, rfl, rfl, _, rfl, ite2 (fun h6 => ?_) (fun h6 => ?_)⟩
        · have h6' : r < 6 := of_decide_eq_true h6
          refine ⟨_, rfl, p, 2001, m1, rfl, hp1, by decide, by decide, by omega, fun r2 m2 H2 hr20 hr21 hm20 hm21 hp2 b2 => ?_⟩
          refine ⟨_, _, rfl, rfl, ?_⟩
          refine ⟨_, rfl, (by show 5 ≤ sizeLine; decide), fun l hl => ?_⟩
          refine ⟨p, l, m2, [V.str "a", V.str "zz", V.str "set a 1", V.str "A b", V.str "0"], rfl, pot_new hp2 hl, upd_same, (pot_ne hp2 hl).symm, by decide, by decide, by omega, fun v m3 H3 hv hm30 hm31 hp3 b3 => ?_⟩
          refine ⟨(by show 2 ≤ sizeLine; decide), fun l2 hl2 => ?_⟩
          have fin : ∀ (v' : V) (d : PyData), Tr (Free H) (upd H3 l2 (.lst [V.int (r2 - 1000), v])) v' d → Sm n d → Q v' (upd H3 l2 (.lst [V.int (r2 - 1000), v])) := fun v' d ht hs =>
            q v' d m3 _ ht hs (by omega) (by omega) (pot_new hp3 hl2) ((b1.trans b2).trans ((But.same (same_new hl)).trans (b3.trans (But.same (same_new hl2)))))
          obtain ⟨x, hx, rfl⟩ : ∃ x : Str, x ∈ words ∧ v = V.str x := by
            simp at hv
            rcases hv with rfl | rfl | rfl | rfl | rfl
            · exact ⟨_, by unfold words; simp, rfl⟩
            · exact ⟨_, by unfold words; simp, rfl⟩
            · exact ⟨_, by unfold words; simp, rfl⟩
            · exact ⟨_, by unfold words; simp, rfl⟩
            · exact ⟨_, by unfold words; simp, rfl⟩
          refine ⟨_, rfl, _, _, rfl, rfl, ?_⟩
          obtain ⟨i2, ei2, hi2⟩ : ∃ i2 : Nat, r - 4 = (i2 : Int) ∧ i2 < 2 := ⟨(r - 4).toNat, by omega, by omega⟩
          obtain ⟨v2, d2, hv2, ht2, hs2⟩ : ∃ (v2 : V) (d2 : PyData), ([V.int (r2 - 1000), V.str x] : List V)[i2]? = some v2 ∧ (∀ N H', Tr N H' v2 d2) ∧ Sm n d2 := by
            match i2, hi2 with
            | 0, _ => exact ⟨_, _, rfl, fun _ _ => .int _, .int n _ (by omega)⟩
            | 1, _ => exact ⟨_, _, rfl, fun _ _ => .str x, .str n x hx⟩
          exact ⟨l2, _, _, v2, rfl, rfl, SqL.of upd_same, at_of (j := i2) ei2 hv2, fin v2 d2 (ht2 _ _) hs2⟩
        · have h6' : ¬ r < 6 := fun e => h6 (decide_eq_true e)
          exact rd r m1 H1 hz (by omega) hr9 hp1 hm0 hm1 b1
end
end Kzero
end

section
set_option Elab.async false
set_option linter.all false
set_option maxRecDepth 100000
set_option maxHeartbeats 2000000
/-! exceptions of classes below one that keeps its argument: made and held, raised and kept -/
namespace Kexc
open PySem PySem.W PySem.Calls PyProof.Rows PySem.HandSPX
/-- __init__(self, value): self.value = value -/
def inA (p1 p2 : Pos) : Arguments := { posonlyargs := [], args := [{ arg := "self", annotation := none, pos := p1 }, { arg := "value", annotation := none, pos := p2 }], vararg := none, kwonlyargs := [], kw_defaults := [], kwarg := none, defaults := [] }
def inB (q1 q2 q3 q4 : Pos) : List Stmt := [.Assign [.Attribute (.Name "self" q1) "value" q2] (.Name "value" q3) q4]
def inS : Scope := { kind := .function, names := [(PySem.Str.ofString "self", .local), (PySem.Str.ofString "value", .local)], isGenerator := false, isCoroutine := false, more := [] }
/-- what the written part says of one class, by a look -/
def clsB (K : Frag) (C fI : Addr) : Bool :=
  decide (findIn K (.ref C) "__setattr__" = some (some (.builtin "object.__setattr__"))) && (decide (findIn K (.ref C) "__getattribute__" = some (some (.builtin "BaseException.__getattribute__"))) && (decide (findIn K (.ref C) "__getattr__" = some none) &&
  (decide (findIn K (.ref C) "value" = some none) && (decide (findIn K (.ref C) "__init__" = some (some (.ref fI))) && (keepIn K (.ref C) && (decide (subIn K (.ref C) (.type "BaseException") = some true) && (decide (typeIn K (.ref C) = some (.type "type")) &&
  (hasDictIn K C && (decide (findIn K (.ref C) "__class__" = some (some (.builtin "object.__class__"))) && decide (mroIn K C (.type "object") = some true))))))))))
structure ExCl (K : Frag) (C fI : Addr) : Prop where
  cls : ∃ nm q N bs bm sn sub ab col dd k0 k1 k2 k3 k5, K.lookup C = some (excClassObj nm q C N bs bm true sn sub ab col dd k0 k1 k2 k3 k5 "ValueError.__new__") ∧ refsVE bm = true
  sa : findIn K (.ref C) "__setattr__" = some (some (.builtin "object.__setattr__"))
  ga : findIn K (.ref C) "__getattribute__" = some (some (.builtin "BaseException.__getattribute__"))
  gg : findIn K (.ref C) "__getattr__" = some none
  noV : findIn K (.ref C) "value" = some none
  iC : findIn K (.ref C) "__init__" = some (some (.ref fI))
  kC : keepIn K (.ref C) = true
  exC : subIn K (.ref C) (.type "BaseException") = some true
  tyC : typeIn K (.ref C) = some (.type "type")
  hdC : hasDictIn K C = true
  haC : findIn K (.ref C) "__class__" = some (some (.builtin "object.__class__"))
  hmC : mroIn K C (.type "object") = some true
theorem exCl_of {K : Frag} {C fI : Addr} (hc : ∃ nm q N bs bm sn sub ab col dd k0 k1 k2 k3 k5, K.lookup C = some (excClassObj nm q C N bs bm true sn sub ab col dd k0 k1 k2 k3 k5 "ValueError.__new__") ∧ refsVE bm = true) (h : clsB K C fI = true) : ExCl K C fI := by
  unfold clsB at h
  simp only [Bool.and_eq_true, decide_eq_true_eq] at h
  obtain ⟨h1, h2, h3, h4, h5, h6, h7, h8, h9, h10, h11⟩ := h
  exact ⟨hc, h1, h2, h3, h4, h5, h6, h7, h8, h9, h10, h11⟩
/-- what it says of __init__ and of what all classes share -/
structure ExTx (K : Frag) (fI : Addr) : Prop where
  tC : typeIn K (.ref fI) = some (.type "function")
  fn : ∃ (oc : Value) (od : Option Addr) (doc pm : Value) (an : Option Addr) (cdv ct : Value) (osl : Array (Option Value)) (p1 p2 q1 q2 q3 q4 : Pos),
    K.lookup fI = some ⟨oc, od, .func (fnOf "__init__" "OnlyError.__init__" (inA p1 p2) (inB q1 q2 q3 q4) inS .none .none doc pm an cdv ct), osl⟩ ∧ codeIn K cdv "OnlyError.__init__" = true
  hn : specialIn K (.builtin "object.__class__") "__get__" = some (some (.builtin "getset_descriptor.__get__"))
  ht : takesIn K (.builtin "object.__class__") = some true
theorem one_fits (v : Value) : [v].length ≤ sizeLine := by
  rw [sizeLine_eq]
  exact (by decide : 1 ≤ 16777216)
theorem ldv {M : Model} {s : Shared} {name : Str} {scope : Scope} {L a : Addr} {cd : Value} {m : Str → Option Value} {x : Str} {pos : Pos} {v : Value} {Q : Value → Shared → Prop} {A : Around} {E : Value → Shared → Prop} (hn : s.heap.Ns L m) (hv : m x = some v) (h : Q v s)
    (hk : scope.kind = .function := by rfl) (hl : (envOfC name scope L a cd).kindOf x = some .local := by rfl) (hd : (x == ("__debug__" : Str)) = false := by decide) :
    wpAny M A (eval (.Name x pos) (envOfC name scope L a cd)) Q E s := wpAny_Name (wpAny_loadName_local hk hl hn hv h) hd
structure InitBehind (h h' : Heap) (x C dx t1 : Addr) (v : Value) : Prop where
  keep : ∀ b o, b ≠ x → h.get? b = some o → h'.get? b = some o
  obj : h'.get? x = some { cls := .ref C, dict := some dx, data := .fields #[.ref t1, .none, .none, .none, .bool false, .none] }
  dbig : h.objs.size ≤ dx
  dne : dx ≠ x
  ns : h'.Ns1 dx (fun y => if y = "value" then some v else none)
/-- one made: at e, its dict at d -/
structure ExMade (h h' : Heap) (e C d : Addr) (v : Value) : Prop where
  keep : ∀ b o, h.get? b = some o → h'.get? b = some o
  new : h.objs.size ≤ e
  obj : ∃ oe vs, h'.get? e = some oe ∧ oe.cls = .ref C ∧ oe.dict = some d ∧ oe.data = .fields vs ∧ vs[1]? = some .none
  dbig : h.objs.size ≤ d
  dne : d ≠ e
  ns : h'.Ns1 d (fun y => if y = "value" then some v else none)
section
variable {prog : Program} {w : World} {A : Around} {E : Value → Shared → Prop} {R : Result → Shared → Prop} {s : Shared} {K : Frag} {C fI : Addr}
theorem ex_init (T : ExTx K fI) (U : ExCl K C fI) {x t0 : Addr} {v : Value} (X : K.In s.heap) (hlim : s.heap.NoLimit) (hx : s.heap.get? x = some (excO C t0)) (hnx : K.lookup x = none) (hroom : A.depth < recursionLimit)
    (hq : ∀ h' tk dx, InitBehind s.heap h' x C dx t0 v → R (.ok (.ret .none)) { s with heap := h', toks := tk }) :
    codeAny (model prog w) A (.call (.ref fI) ⟨[.ref x, v], []⟩) R s := by
  obtain ⟨oc, od, doc, pm, an, cdv, ct, osl, p1, p2, q1, q2, q3, q4, ho, hcd⟩ := T.fn
  obtain ⟨nm, q, N, bs, bm, sn, sub, ab, col, dd, k0, k1, k2, k3, k5, hC, hbm⟩ := U.cls
  have hcl : clsIn K C = some { name := nm, bases := bs, mro := .ref C :: bm, ns := N, qualname := q, hasDict := true, slotNames := sn, subclasses := sub, abstract := ab, collection := col, hasDel := false } := by unfold clsIn; rw [hC] <;> rfl
  refine Att.call_fn (binds := [("self", .ref x), ("value", v)]) X hlim ho hcd hroom (BindsTo.of_eq (by first | rfl | with_unfolding_all rfl)) (by first | rfl | decide | with_unfolding_all rfl) (fun s₁ IC => ?_) rfl rfl rfl
  obtain ⟨h₁, tk₁, rfl⟩ := IC.toInCall.same
  have k : ∀ b o, s.heap.get? b = some o → h₁.get? b = some o := IC.toInCall.keep
  have hn := IC.toInCall.ns
  have X₁ : K.In h₁ := X.keeps k
  have hx₁ := k _ _ hx
  show wpAny _ _ (execs _ _) _ _ _
  refine wpAny_execs_cons (plainObj_wpAny_Assign_Attribute ?_)
  refine ldv (v := v) hn (by first | rfl | with_unfolding_all rfl | kernel_rfl) (ldv (v := .ref x) hn (by first | rfl | with_unfolding_all rfl | kernel_rfl) ?_)
  refine set_plain X₁ (ox := excO C t0) (od := none) ⟨hx₁, rfl, rfl, trivial⟩ U.sa ?_
  refine exc_osa X₁ hx₁ hcl (show refsVE (.ref C :: bm) = true from hbm) rfl U.noV (fun h₃ tk₃ dx k₃ dn dne hx₃ hn₃ => ?_)
  show wpAny _ _ (execs _ _) _ _ _
  have z : s.heap.objs.size < h₁.objs.size := hn.lt
  exact wpAny_execs_nil (hq h₃ tk₃ dx ⟨fun b o hb e => k₃ b o hb (k b o e), hx₃, Nat.le_of_lt (Nat.lt_of_lt_of_le z dn), dne, hn₃⟩)
theorem ex_made (T : ExTx K fI) (U : ExCl K C fI) {v : Value} (X : K.In s.heap) (hlim : s.heap.NoLimit) (hroom : A.depth + 1 < recursionLimit)
    (hq : ∀ h' tk e d, ExMade s.heap h' e C d v → R (.ok (.ret (.ref e))) { s with heap := h', toks := tk }) :
    codeAny (model prog w) A (.call (.ref C) ⟨[v], []⟩) R s := by
  obtain ⟨nm, q, N, bs, bm, sn, sub, ab, col, dd, k0, k1, k2, k3, k5, hC, hbm⟩ := U.cls
  obtain ⟨hp, g, dr, tk, os⟩ := s
  have k : ∀ b o, hp.get? b = some o → ((hp.push (kdv_tup [v])).push (excO C hp.objs.size)).get? b = some o := fun b o e => Heap.get?_push_of_some _ (Heap.get?_push_of_some _ e)
  have hget : ((hp.push (kdv_tup [v])).push (excO C hp.objs.size)).get? (hp.objs.size + 1) = some (excO C hp.objs.size) := by heap_get
  have hnx : K.lookup (hp.objs.size + 1) = none := by
    cases e : K.lookup (hp.objs.size + 1) with
    | none => rfl
    | some o =>
      have z : hp.get? (hp.objs.size + 1) = some o := X _ _ e
      exact absurd (Nat.lt_of_succ_lt (Heap.lt_size z)) (Nat.lt_irrefl _)
  refine call_own F.excBase_ValueError (fun X => refsVE_contains X bm hbm) (X _ _ hC) (looks_findIn X U.iC) (fun self => bind_fn X self T.tC) (one_fits v) ?_
  refine ex_init (s := ⟨(hp.push (kdv_tup [v])).push (excO C hp.objs.size), g, dr, tk, os⟩) T U (X.keeps k) (hlim.keeps k) hget hnx ?_ fun h' tk' dx ⟨k', hx, dn, dne, hns⟩ => ?_
  · show A.depth + 1 < recursionLimit
    exact hroom
  · have old : ∀ b o, hp.get? b = some o → h'.get? b = some o := fun b o e => k' b o (Nat.ne_of_lt (Nat.lt_succ_of_lt (Heap.lt_size e))) (k b o e)
    have z : hp.objs.size + 1 + 1 ≤ dx := by
      first
        | (simpa only [Heap.size_push] using dn)
        | exact dn
        | (have q := dn; rw [Heap.size_push, Heap.size_push] at q; exact q)
    exact ⟨rfl, hq h' tk' (hp.objs.size + 1) dx ⟨old, Nat.le_succ _, ⟨_, _, hx, rfl, rfl, rfl, rfl⟩, Nat.le_trans (Nat.le_trans (Nat.le_succ _) (Nat.le_succ _)) z, dne, hns⟩⟩
end
end Kexc
end

section
set_option Elab.async false
set_option linter.all false
set_option maxRecDepth 100000
set_option maxHeartbeats 2000000
namespace Kzero
open PySem PySem.Spec PyProof.Rows L2
/-- at e: an exception of the class at C, its dict at d -/
def exE (e C d : Addr) : HO := .ext fun h => ∃ (oe : Obj) (vs : Array Value), h.get? e = some oe ∧ oe.cls = .ref C ∧ oe.dict = some d ∧ oe.data = .fields vs
/-- the dict of an exception that keeps v -/
def valD (v : V) : HO := .xd [(("value" : Str), v)]
/-- an exception of the class at C that keeps v stands at e -/
def ExAt (H : Hp) (e C : Addr) (v : V) : Prop := ∃ d, H e = some (exE e C d) ∧ H d = some (valD v)
theorem ExAt.same {H H' : Hp} {e C : Addr} {v : V} (x : ExAt H e C v) (k : Same H H') : ExAt H' e C v := let ⟨d, a, b⟩ := x; ⟨d, k _ _ a, k _ _ b⟩
theorem relO_val {v : V} {v' : Value} (r : RelV v v') (f : Str) : RelO (List.lookup f [(("value" : Str), v)]) (if f = "value" then some v' else none) := by
  by_cases hw : f = "value"
  · subst hw
    rw [if_pos rfl]
    have q : List.lookup ("value" : Str) [(("value" : Str), v)] = some v := by simp [List.lookup]
    rw [q]
    exact r
  · rw [if_neg hw]
    have qw : (f == ("value" : Str)) = false := by simpa using hw
    have q2 : List.lookup f [(("value" : Str), v)] = none := by simp [List.lookup, qw]
    rw [q2]
    trivial
section
variable {X : Cx} {pins : List (Addr × Obj)} {σ : L2.St} {H : Hp} {s : Shared}
/-- an object that came behind the entry is tracked from here on -/
theorem track {a : Addr} {o : HO} (I : L2.Inv X pins σ H s) (hn : H a = none) (h0 : X.s_0.heap.get? a = none) (hL : a ≠ X.env.locals) (hC : ∀ x c, X.env.cells.lookup x = some c → c ≠ a) (hP : ∀ p ∈ X.pn ++ pins, p.1 ≠ a)
    (new : ObjOk X.prog X.w (upd H a o) s.heap a o) : L2.Inv X pins σ (upd H a o) s := by
  have n0 : ∀ b u, X.s_0.heap.get? b = some u → b ≠ a := fun b u e z => by
    rw [z, h0] at e
    cases e
  refine ⟨I.ok, I.os, I.bare, ⟨I.base.keep, I.base.slot, fun b u e n hx => ?_, I.base.there, fun b xs e => ?_, fun b u w' e => ?_, fun b ps e => ?_⟩, I.loc, I.cell, ?_, fun x c e => ?_, fun p hp => ?_, fun b u e => ?_, I.len⟩
  · rw [upd_ne (n0 b u e)]
    exact I.base.free b u e n hx
  · have q := I.base.tups b xs e
    rw [upd_ne (ne_of_none q hn)]
    exact q
  · have q := I.base.frzs b u w' e
    rw [upd_ne (ne_of_none q hn)]
    exact q
  · obtain ⟨m, q⟩ := I.base.tbls b ps e
    exact ⟨m, by rw [upd_ne (ne_of_none q hn)]; exact q⟩
  · rw [upd_ne (Ne.symm hL)]
    exact I.free
  · rw [upd_ne (hC x c e)]
    exact I.freeC x c e
  · obtain ⟨e, n, r⟩ := I.pin p hp
    exact ⟨e, by rw [upd_ne (hP p hp)]; exact n, r⟩
  · by_cases hb : b = a
    · subst hb
      rw [upd_same] at e
      cases e
      exact new
    · rw [upd_ne hb] at e
      exact (I.hok b u e).stay (fun c v _ q => q) (fun c q => by rw [upd_ne (ne_of_none q hn)]; exact q) fun c xs q => by rw [upd_ne (ne_of_none q hn)]; exact q
theorem young (I : L2.Inv X pins σ H s) {b : Addr} (h : s.heap.objs.size ≤ b) : X.s_0.heap.get? b = none ∧ b ≠ X.env.locals ∧ (∀ x c, X.env.cells.lookup x = some c → c ≠ b) ∧ ∀ p ∈ X.pn ++ pins, p.1 ≠ b := by
  refine ⟨Heap.get?_none_of_le (Nat.le_trans I.sz h), fun e => ?_, fun x c e z => ?_, fun p hp z => ?_⟩
  · exact absurd (Nat.lt_of_lt_of_le I.lt h) (by rw [e]; exact Nat.lt_irrefl _)
  · obtain ⟨v, o, ho, _⟩ := I.cell x c e
    exact absurd (Nat.lt_of_lt_of_le (Heap.lt_size ho) h) (by rw [z]; exact Nat.lt_irrefl _)
  · obtain ⟨ho, _⟩ := I.pin p hp
    exact absurd (Nat.lt_of_lt_of_le (Heap.lt_size ho) h) (by rw [z]; exact Nat.lt_irrefl _)
theorem exE_ok {P : Program} {w : World} {H : Hp} {h : Heap} {e C d : Addr} {oe : Obj} {vs : Array Value} (e1 : h.get? e = some oe) (e2 : oe.cls = .ref C) (e3 : oe.dict = some d) (e4 : oe.data = .fields vs) : ObjOk P w H h e (exE e C d) :=
  ⟨⟨oe, vs, e1, e2, e3, e4⟩, ⟨oe, e1⟩, fun _ _ ⟨o, v, q, r⟩ k => ⟨o, v, k o q, r⟩⟩
end
section
variable {X : Cx} {C fI : Addr}
/-- C(e), the exception as a value -/
def tMkE (C : Addr) (ta : TA) : TE := fun σ H Q => ta σ H fun vs H1 => ∃ v, vs = [v] ∧ ∀ e d, H1 e = none → H1 d = none → d ≠ e → Q (.ref e) (upd (upd H1 d (valD v)) e (exE e C d))
theorem pe_mkE {x : Str} {a : Expr} {ta : TA} {p pos : Pos} {k : Nat} (T : Kexc.ExTx X.K fI) (U : Kexc.ExCl X.K C fI) (hr : Room k X.A) (hg : Gl X x) (gC : X.mg x = some (.ref C)) (ha : PA X [a] ta) (hdb : (x == ("__debug__" : Str)) = false := by decide)
    (he : starEach (a :: []) X.env = (false, eval a X.env) :: starEach [] X.env := by rfl) (hpl : (backTo pos (starEach [] X.env)).any (·.1) = false := by rfl) :
    PE X (.Call (.Name x p) [a] [] pos) (tMkE C ta) := by
  refine ⟨fun pins s σ H Q I h => ?_⟩
  refine wpAny_Call_Name_kw (ld_glob I hg gC ?_ hdb)
  refine PySem.W.callWith_K (h₀ := X.base) I.ok.mod.kin U.kC (thn (ha.run pos pins s σ H _ I h) fun us s1 hh => ?_) he hpl
  obtain ⟨vs, H1, I1, r1, v, ev, q1⟩ := hh
  subst ev
  refine ⟨I1.kIn, ?_⟩
  cases r1 with
  | cons rv rn =>
    rename_i v' us'
    cases rn
    show wpAny _ _ (call (.ref C) [v']) _ _ _
    have hlim := I1.nolimit
    refine wpAny_call (Kexc.ex_made T U I1.kIn hlim (by have := hr.dp; omega) fun h' tk' e d M => ?_)
    show EP X pins σ Q (.ref e) _
    obtain ⟨oe, fv, hoe, hc, hd, hdat, h1⟩ := M.obj
    have I2 : L2.Inv X pins σ H1 { s1 with heap := h', toks := tk' } := I1.kept M.keep
    have fe := I1.hok.fresh M.new
    have fd := I1.hok.fresh M.dbig
    obtain ⟨d1, d2, d3, d4⟩ := young I1 M.dbig
    obtain ⟨e1, e2, e3, e4⟩ := young I1 M.new
    have I3 := track (o := valD v) I2 fd d1 d2 d3 d4 ⟨_, M.ns, fun f => relO_val rv f⟩
    have I4 := track (o := exE e C d) I3 (by rw [upd_ne (Ne.symm M.dne)]; exact fe) e1 e2 e3 e4 (exE_ok hoe hc hd hdat)
    exact ⟨.ref e, _, I4, rfl, q1 e d fe fd M.dne⟩
/-- e.value -/
def tVal (C : Addr) (te : TE) : TE := fun σ H Q => te σ H fun x H1 => ∃ (e : Addr) (v : V), x = .ref e ∧ ExAt H1 e C v ∧ Q v H1
theorem pe_value {e : Expr} {te : TE} {pos : Pos} (U : Kexc.ExCl X.K C fI) (he : PE X e te) (hb : attributeBase e "value" X.env (eval e X.env) = eval e X.env := by rfl) : PE X (.Attribute e "value" pos) (tVal C te) := by
  refine ⟨fun pins s σ H Q I h => ?_⟩
  refine attr_of hb (thn (he.run pins s σ H _ I h) fun u s1 hh => ?_)
  obtain ⟨x, H1, I1, rx, a, v, ex, ⟨d, g1, g2⟩, q⟩ := hh
  subst ex
  obtain rfl : u = Value.ref a := rx
  obtain ⟨⟨oe, vs, ho, hc, hd, hdat⟩, _, _⟩ : (∃ (oe : Obj) (vs : Array Value), s1.heap.get? a = some oe ∧ oe.cls = .ref C ∧ oe.dict = some d ∧ oe.data = .fields vs) ∧ (∃ o, s1.heap.get? a = some o) ∧ _ := I1.hok a _ g1
  obtain ⟨mA, hns, hr⟩ : ∃ mA, s1.heap.Ns1 d mA ∧ ∀ f, RelO (List.lookup f [(("value" : Str), v)]) (mA f) := I1.hok d _ g2
  obtain ⟨od, hod, hl⟩ := lookIn_ns hns
  have l : List.lookup ("value" : Str) [(("value" : Str), v)] = some v := by simp [List.lookup]
  obtain ⟨u, hu, ru⟩ := RelO.some_of (v := v) (o := mA "value") (by rw [← l]; exact hr "value")
  have J : PySem.W.InstAt s1.heap a oe C (some od) := ⟨ho, hc, by unfold PySem.W.notCls; rw [hdat] <;> rfl, by rw [hd]; exact hod⟩
  exact HandSPX.exc_get I1.kIn J U.ga U.gg U.exC (PySem.W.findObj_own U.hdC U.noV rfl (by rw [hl, hu])) (handed_of ru) ⟨v, H1, I1.tok _, ru, q⟩
end
end Kzero
end

section
set_option Elab.async false
set_option linter.all false
set_option maxRecDepth 100000
set_option maxHeartbeats 2000000
namespace Kzero
open PySem PySem.Spec PyProof.Rows L2
section
variable {X : Cx} {fI : Addr}
/-- isinstance(e, c), e an exception that is held -/
def rIsX (K : PySem.W.Frag) (fI : Addr) : List V → Hp → VK → Prop := fun xs H Q => ∃ (e C d : Addr) (c : V) (cv : Value) (b : Bool), xs = [.ref e, c] ∧ H e = some (exE e C d) ∧ (∃ v, H d = some (valD v)) ∧ Kexc.ExCl K C fI ∧ (∀ u, L2.RelV c u → u = cv) ∧ PySem.W.kitOne K (.ref C) cv = some b ∧ Q (.bl b) H
theorem call_isX (T : Kexc.ExTx X.K fI) : CallR X (.builtin "isinstance") (rIsX X.K fI) := by
  intro pins s σ H xs us Q I r h
  obtain ⟨e, C, d, c, cv, b, rfl, g1, ⟨v, g2⟩, U, hcv, hk, q⟩ := h
  cases r with
  | cons rx rr =>
    cases rr with
    | cons rt rr =>
      cases rr
      cases rx
      have ec := hcv _ rt
      subst ec
      obtain ⟨⟨oe, vs, ho, hc, hd, hdat⟩, _, _⟩ : (∃ (oe : Obj) (vs : Array Value), s.heap.get? e = some oe ∧ oe.cls = .ref C ∧ oe.dict = some d ∧ oe.data = .fields vs) ∧ (∃ o, s.heap.get? e = some o) ∧ _ := I.hok e _ g1
      obtain ⟨mA, hns, hr⟩ : ∃ mA, s.heap.Ns1 d mA ∧ ∀ f, RelO (List.lookup f [(("value" : Str), v)]) (mA f) := I.hok d _ g2
      obtain ⟨od, hod, hl⟩ := lookIn_ns hns
      have J : PySem.W.InstAt s.heap e oe C (some od) := ⟨ho, hc, by unfold PySem.W.notCls; rw [hdat] <;> rfl, by rw [hd]; exact hod⟩
      obtain ⟨cd, hcd, _⟩ := PySem.W.any_some U.hdC
      exact PySem.W.kia_one (PySem.W.kitx_exc (by rw [hcd]; rfl) U.ga U.gg U.exC U.haC T.hn T.ht U.hmC) I.kIn J hk (fun z => nomatch z) fun tk => ⟨.bl b, H, I.kept (t' := tk) fun _ _ z => z, rfl, q⟩
end
/-! ### what a value reads as -/
section
variable {X : Cx} {pins : List (Addr × Obj)} {σ : L2.St} {H : Hp} {s : Shared} {N : Addr → Prop}
theorem keys_read (h : Heap) : ∀ {us : List Value} {kds : List PyData}, Paired Kzip.LeafRd us kds → ReadsAll h us kds []
  | _, _, .nil => .nil
  | _, _, .cons a r => by
    have z := ReadsAll.cons (a h) (keys_read h r)
    exact z
theorem zip_fst {α β : Type} : ∀ {as : List α} {bs : List β}, as.length = bs.length → (as.zip bs).map (·.1) = as
  | [], [], _ => rfl
  | a :: as, b :: bs, h => by
    simp only [List.zip_cons_cons, List.map_cons, List.cons.injEq, true_and]
    exact zip_fst (by simpa using h)
  | [], _ :: _, h => by simp at h
  | _ :: _, [], h => by simp at h
theorem zip_snd {α β : Type} : ∀ {as : List α} {bs : List β}, as.length = bs.length → (as.zip bs).map (·.2) = bs
  | [], [], _ => rfl
  | a :: as, b :: bs, h => by
    simp only [List.zip_cons_cons, List.map_cons, List.cons.injEq, true_and]
    exact zip_snd (by simpa using h)
  | [], _ :: _, h => by simp at h
  | _ :: _, [], h => by simp at h
mutual
theorem Tr.reads (I : L2.Inv X pins σ H s) : ∀ (d : PyData) (v : V) (u : Value), Tr N H v d → L2.RelV v u → ∃ as, Reads s.heap u d as ∧ ∀ b ∈ as, ∃ o, H b = some o
  | .none, _, u, .non, r => by
    cases (show u = Value.none from r)
    exact ⟨[], .none, fun _ h => absurd h List.not_mem_nil⟩
  | .bool _, _, u, .bl b, r => by
    cases (show u = Value.bool b from r)
    exact ⟨[], .bool b, fun _ h => absurd h List.not_mem_nil⟩
  | .int _, _, u, .int i, r => by
    obtain ⟨t, rfl⟩ := (show ∃ t, u = Value.int i t from r)
    exact ⟨[], .int i t, fun _ h => absurd h List.not_mem_nil⟩
  | .str _, _, u, .str x, r => by
    obtain ⟨t, rfl⟩ := (show ∃ t, u = Value.str x t from r)
    exact ⟨[], .str x t, fun _ h => absurd h List.not_mem_nil⟩
  | .list ds, _, u, .lst (a := a) (xs := xs) n e rs, r => by
    cases (show u = Value.ref a from r)
    obtain ⟨_, its, k, rv, ho⟩ : xs.length ≤ sizeLine ∧ ∃ (its : List Value) (n : Nat), L2.Vals xs its ∧ s.heap.get? a = some { cls := .type "list", data := .seq its.toArray n } := I.hok a _ e
    obtain ⟨as, h1, h2⟩ := TrAll.reads I ds xs its rs rv
    refine ⟨a :: as, .list ho rfl rfl (by simpa using h1), fun b hb => ?_⟩
    rcases List.mem_cons.mp hb with rfl | hb
    · exact ⟨_, e⟩
    · exact h2 b hb
  | .tuple ds, _, u, .tup (a := a) (xs := xs) n e rs, r => by
    cases (show u = Value.ref a from r)
    obtain ⟨_, its, rv, ob, ho, hc, k, hd⟩ : xs.length ≤ sizeLine ∧ ∃ its : List Value, L2.Vals xs its ∧ IsTup s.heap a its.toArray := I.hok a _ e
    obtain ⟨as, h1, h2⟩ := TrAll.reads I ds xs its rs rv
    exact ⟨as, .tuple ho hc hd (by simpa using h1), h2⟩
  | .dict _, _, u, .dict (a := a) (kds := kds) (xs := xs) (ds := ds) n e hl hk rs, r => by
    cases (show u = Value.ref a from r)
    obtain ⟨⟨ob, es, k, ho, hc, hd, pk, pv⟩, _, _⟩ : (∃ (o : Obj) (es : Array DictEntry) (n : Nat), s.heap.get? a = some o ∧ o.cls = .type "dict" ∧ o.data = .dict es n ∧ Paired Kzip.LeafRd (es.toList.map (fun en : DictEntry => en.key)) kds ∧ L2.Vals xs (es.toList.map (fun en : DictEntry => en.val))) ∧ (∃ o, s.heap.get? a = some o) ∧ (∀ h1 h2 : Heap, _ → (∀ o, h1.get? a = some o → h2.get? a = some o) → _) := I.hok a _ e
    obtain ⟨as, h1, h2⟩ := TrAll.reads I ds xs _ rs pv
    have z : kds.length = ds.length := by rw [hl, rs.length]
    refine ⟨a :: [] ++ as, .dict ho hc hd (by rw [zip_fst z]; exact keys_read _ pk) (by rw [zip_snd z]; exact h1), fun b hb => ?_⟩
    rcases List.mem_cons.mp hb with rfl | hb
    · exact ⟨_, e⟩
    · exact h2 b hb
theorem TrAll.reads (I : L2.Inv X pins σ H s) : ∀ (ds : List PyData) (vs : List V) (us : List Value), TrAll N H vs ds → L2.Vals vs us → ∃ as, ReadsAll s.heap us ds as ∧ ∀ b ∈ as, ∃ o, H b = some o
  | [], _, us, .nil, r => by
    cases r
    exact ⟨[], .nil, fun _ h => absurd h List.not_mem_nil⟩
  | d :: ds, _, us, .cons a rs, r => by
    cases r with
    | cons r1 r2 =>
      obtain ⟨as, h1, h2⟩ := Tr.reads I d _ _ a r1
      obtain ⟨bs, g1, g2⟩ := TrAll.reads I ds _ _ rs r2
      refine ⟨as ++ bs, .cons h1 g1, fun b hb => ?_⟩
      rcases List.mem_append.mp hb with hb | hb
      · exact h2 b hb
      · exact g2 b hb
end
/-- repr(v), v a drawn value -/
def rRepr (N : Addr → Prop) : List V → Hp → VK → Prop := fun xs H Q => ∃ (v : V) (d : PyData), xs = [v] ∧ Tr N H v d ∧ d.showable = true ∧ d.shown.length ≤ sizeLine ∧ d.depth ≤ 100 ∧ Q (.str d.shown) H
theorem call_reprD (hG : X.A.guards = some []) (hu : X.A.units + 200 < cLine) (hs : ∃ o, X.base.get? sysModules = some o) : CallR X (.builtin "repr") (rRepr N) := by
  intro pins s σ H xs us Q I r h
  obtain ⟨v, d, rfl, ht, hsh, hsz, hdp, q⟩ := h
  cases r with
  | cons rx rr =>
    rename_i u us'
    cases rr
    obtain ⟨as, rd, tracked⟩ := Tr.reads I d v u ht rx
    have hno : sysModules ∉ as := fun hm => by
      obtain ⟨o, e⟩ := tracked _ hm
      obtain ⟨ob, eb⟩ := hs
      rw [(I.bs _ _ eb).2] at e
      cases e
    cases u with
    | ref a =>
      exact repr_of_reads' rd hsh (fun _ => hno) hG (by omega) (fun _ _ e => e) (fun h' u tk hk => ⟨.str d.shown, H, I.kept (t' := tk) hk, ⟨u, rfl⟩, q⟩) hsz
    | none =>
      cases rd
      exact PySem.P.repr_of_none ⟨.str _, H, I.tok _, ⟨_, rfl⟩, q⟩
    | bool b =>
      cases rd
      exact PySem.P.repr_of_bool ⟨.str _, H, I.tok _, ⟨_, rfl⟩, q⟩
    | int i t =>
      cases rd
      have hz : i.natAbs.log2 < 1920 := by simpa [PyData.showable] using hsh
      exact PySem.P.repr_of_int hz ⟨.str _, H, I.tok _, ⟨_, rfl⟩, q⟩
    | str x t =>
      cases rd
      have hz : (reprText x).length ≤ sizeLine := by simpa [PyData.shown] using hsz
      exact PySem.P.repr_of_str ⟨.str _, H, I.tok _, ⟨_, rfl⟩, q⟩ hz
    | _ => exact nomatch rd
end
end Kzero
end

section
set_option Elab.async false
set_option linter.all false
set_option maxRecDepth 100000
set_option maxHeartbeats 2000000
namespace Kzero
open PySem L2
def bk : Nat → Nat
  | 0 => 7
  | n + 1 => 3 * bk n + 9
/-- what is known of a small datum -/
structure Fits (d : PyData) (b k : Nat) : Prop where
  sh : d.showable = true
  lf : d.leavesShort 16 = true
  bu : d.bulk ≤ b
  dp : d.depth ≤ k
theorem words_ok : ∀ x ∈ words, (x.cps.toList.all fun c => decide (c < 16 ^ 8)) = true ∧ x.cps.size ≤ 7 := by decide +kernel
theorem fits_all {b k : Nat} : ∀ {ds : List PyData}, (∀ d ∈ ds, Fits d b k) → PyData.showableAll ds = true ∧ PyData.leavesShortAll 16 ds = true ∧ PyData.bulkAll ds ≤ ds.length * (b + 1) ∧ PyData.depthAll ds ≤ k
  | [], _ => ⟨rfl, rfl, by simp [PyData.bulkAll], by simp [PyData.depthAll]⟩
  | d :: ds, h => by
    have f := h d List.mem_cons_self
    obtain ⟨h1, h2, h3, h4⟩ := fits_all (ds := ds) fun x hx => h x (List.mem_cons_of_mem _ hx)
    refine ⟨by simp [PyData.showableAll, f.sh, h1], by simp [PyData.leavesShortAll, f.lf, h2], ?_, ?_⟩
    · have := f.bu
      simp only [PyData.bulkAll, List.length_cons, Nat.succ_mul]
      omega
    · have := f.dp
      simp only [PyData.depthAll]
      omega
theorem key_fits {k : PyData} (h : Kzip.KeyD k) : Fits k 1 0 := by
  rcases h with rfl | rfl | rfl | rfl
  · exact ⟨by decide +kernel, by decide +kernel, by decide +kernel, by decide +kernel⟩
  · exact ⟨by decide +kernel, by decide +kernel, by decide +kernel, by decide +kernel⟩
  · exact ⟨by decide +kernel, by decide +kernel, by decide +kernel, by decide +kernel⟩
  · exact ⟨by decide +kernel, by decide +kernel, by decide +kernel, by decide +kernel⟩
theorem fits_kv {b k : Nat} : ∀ {kds ds : List PyData}, kds.length = ds.length → (∀ x ∈ kds, Kzip.KeyD x) → (∀ d ∈ ds, Fits d b k) →
    PyData.showableKv (kds.zip ds) = true ∧ PyData.leavesShortKv 16 (kds.zip ds) = true ∧ PyData.bulkKv (kds.zip ds) ≤ ds.length * (b + 3) ∧ PyData.depthKv (kds.zip ds) ≤ k
  | [], [], _, _, _ => ⟨rfl, rfl, by simp [PyData.bulkKv], by simp [PyData.depthKv]⟩
  | x :: kds, d :: ds, hl, hk, h => by
    have f := h d List.mem_cons_self
    have g := key_fits (hk x List.mem_cons_self)
    obtain ⟨h1, h2, h3, h4⟩ := fits_kv (kds := kds) (ds := ds) (by simpa using hl) (fun y hy => hk y (List.mem_cons_of_mem _ hy)) fun y hy => h y (List.mem_cons_of_mem _ hy)
    refine ⟨by simp [PyData.showableKv, f.sh, g.sh, h1], by simp [PyData.leavesShortKv, f.lf, g.lf, h2], ?_, ?_⟩
    · have := f.bu
      have := g.bu
      simp only [List.zip_cons_cons, PyData.bulkKv, List.length_cons, Nat.succ_mul]
      omega
    · have := f.dp
      have := g.dp
      simp only [List.zip_cons_cons, PyData.depthKv]
      omega
  | [], _ :: _, hl, _, _ => by simp at hl
  | _ :: _, [], hl, _, _ => by simp at hl
theorem fits : ∀ (n : Nat) (d : PyData), Sm n d → Fits d (bk n) n
  | n, _, .non _ => ⟨rfl, rfl, Nat.zero_le _, Nat.zero_le _⟩
  | n, _, .bl _ b => ⟨rfl, rfl, Nat.zero_le _, Nat.zero_le _⟩
  | n, _, .int _ i hi => by
    refine ⟨?_, ?_, Nat.zero_le _, Nat.zero_le _⟩
    · have h : i.natAbs.log2 < 11 := PySem.Flt.log2_lt_of (by decide) (by omega)
      have h' : i.natAbs.log2 < 1920 := by omega
      simpa [PyData.showable] using h'
    · have h : (toString i).length ≤ 4 + 1 := int_text_length_le10 (by decide) (by omega)
      have e : (PyData.shown (.int i)).length = (toString i).length := by
        simp only [PyData.shown]
        rw [ofString_length]
      simp only [PyData.leavesShort, decide_eq_true_eq]
      omega
  | n, _, .str _ x hx => by
    obtain ⟨h1, h2⟩ := words_ok x hx
    refine ⟨rfl, by simpa only [PyData.leavesShort] using h1, ?_, Nat.zero_le _⟩
    simp only [PyData.bulk]
    have : 7 ≤ bk n := by
      cases n with
      | zero => decide
      | succ n =>
        show 7 ≤ 3 * bk n + 9
        omega
    omega
  | n + 1, _, .list _ ds hl hd => by
    obtain ⟨h1, h2, h3, h4⟩ := fits_all fun d h => fits n d (hd d h)
    have h5 : ds.length * (bk n + 1) ≤ 3 * (bk n + 1) := Nat.mul_le_mul_right _ hl
    refine ⟨by simpa only [PyData.showable] using h1, by simpa only [PyData.leavesShort] using h2, ?_, ?_⟩
    · simp only [PyData.bulk, bk]
      omega
    · simp only [PyData.depth]
      omega
  | n + 1, _, .tuple _ ds hl hd => by
    obtain ⟨h1, h2, h3, h4⟩ := fits_all fun d h => fits n d (hd d h)
    have h5 : ds.length * (bk n + 1) ≤ 3 * (bk n + 1) := Nat.mul_le_mul_right _ hl
    refine ⟨by simpa only [PyData.showable] using h1, by simpa only [PyData.leavesShort] using h2, ?_, ?_⟩
    · simp only [PyData.bulk, bk]
      omega
    · simp only [PyData.depth]
      omega
  | n + 1, _, .dict _ kds ds hl hz hk hd => by
    obtain ⟨h1, h2, h3, h4⟩ := fits_kv hz hk fun d h => fits n d (hd d h)
    have h5 : ds.length * (bk n + 3) ≤ 3 * (bk n + 3) := Nat.mul_le_mul_right _ hl
    refine ⟨by simpa only [PyData.showable] using h1, by simpa only [PyData.leavesShort] using h2, ?_, ?_⟩
    · simp only [PyData.bulk, bk]
      omega
    · simp only [PyData.depth]
      omega
end Kzero
end

section
set_option Elab.async false
set_option linter.all false
set_option maxRecDepth 100000
set_option maxHeartbeats 2000000
/-! an except clause whose error is kept behind it -/
namespace Kzero
open PySem PySem.Spec PyProof.Rows L2
/-- an error of the class at C, its dict at dd, has come down in this def's frame; sI: the state without it -/
structure Down (X : Cx) (pins : List (Addr × Obj)) (σ : L2.St) (H : Hp) (sI s : Shared) (B : Heap) (a C dd : Addr) : Prop where
  inv : L2.Inv X pins σ H sI
  nb : ∀ b o, sI.heap.get? b = some o → b ∉ frs X.stack → B.get? b = some o
  up : sI.heap.UpToSlots s.heap
  fl : HandSPX.FlyingZ B (X.env :: X.outer) a (Zc (.ref C) (some dd)) s.heap
  na : H a = none
  os : s.os = sI.os
  ag : AllBare s.gens
section
variable {X : Cx} {pins : List (Addr × Obj)} {σ : L2.St} {H : Hp} {sI s : Shared} {B : Heap} {a C dd : Addr}
theorem Down.here (W : Down X pins σ H sI s B a C dd) : L2.Inv X pins σ H s := by
  have z := W.inv.landed W.nb W.fl.1 W.up W.os W.ag
  exact z
/-- it is none of the frames -/
theorem Down.noFrame (W : Down X pins σ H sI s B a C dd) : a ∉ frs (X.env :: X.outer) := fun hm => by
  obtain ⟨oe, vs, e, _, d⟩ := W.fl.there
  obtain ⟨_, o, e2, hf⟩ := W.fl.2.2.1.mem hm
  rw [e] at e2
  cases e2
  exact hf _ d
/-- what is asked of an address that is to be tracked -/
theorem Down.new (W : Down X pins σ H sI s B a C dd) (hs : X.stack = X.env :: X.outer) (hf : X.env.frame = some X.env.locals) (hx : X.ex = []) :
    X.s_0.heap.get? a = none ∧ a ≠ X.env.locals ∧ a ∉ X.fs ∧ (∀ x c, X.env.cells.lookup x = some c → c ≠ a) ∧ ∀ p ∈ X.pn ++ pins, p.1 ≠ a := by
  have nf := W.noFrame
  have gone : sI.heap.get? a = none := by
    cases e : sI.heap.get? a with
    | none => rfl
    | some o =>
      have z := W.nb a o e (by rw [hs]; exact nf)
      rw [W.fl.2.1] at z
      cases z
  refine ⟨?_, fun z => nf (List.mem_filterMap.mpr ⟨X.env, List.mem_cons_self, by rw [hf, z]⟩), fun hm => ?_, fun x c e z => ?_, fun p hp z => ?_⟩
  · cases e : X.s_0.heap.get? a with
    | none => rfl
    | some o =>
      obtain ⟨o', z⟩ := W.inv.base.there a o e (by rw [hx]; exact List.not_mem_nil)
      rw [gone] at z
      cases z
  · obtain ⟨en, he, q⟩ := List.mem_filterMap.mp hm
    exact nf (List.mem_filterMap.mpr ⟨en, List.mem_cons_of_mem _ he, q⟩)
  · obtain ⟨v, o, ho, _⟩ := W.inv.cell x c e
    rw [z, gone] at ho
    cases ho
  · obtain ⟨ho, _⟩ := W.inv.pin p hp
    rw [z, gone] at ho
    cases ho
variable {x n : Str} {c : Value} {i : Nat} {suite : List Stmt} {b₀ : Stmt} {np pos' : Pos} {rest : List ExceptHandler} {D : Ends}
/-- the test of a clause -/
theorem Down.test (W : Down X pins σ H sI s B a C dd) (hs : X.stack = X.env :: X.outer) (hf : X.env.frame = some X.env.locals) (hx : X.ex = []) (hc : Names X x c) {b : Bool} (hb : PySem.W.exmOne X.K (.ref C) c = some b) {R : Result → Shared → Prop}
    (h : R (.ok (if b then .brk else .next)) s) : codeAny (model X.prog X.w) (X.A.mark (some (.ref a))) (.handlers (.ref a) [.ExceptHandler (some (.Name x np)) none [] pos'] X.env) R s := by
  obtain ⟨oe, vs, he, hz, hd⟩ := W.fl.there
  obtain ⟨_, nL, nF, _, _⟩ := W.new hs hf hx
  have S := W.here.suite he hd W.na nL nF
  refine codeAny_handlers_test ?_
  have LT : PySem.W.Looks (model X.prog X.w) s.heap (typeOf (.ref a)) (.ref C) := fun A Q E s k q => wpAny_typeOf_ref (k _ _ he) (by rw [hz.1]; exact q)
  have LM := PySem.W.exm_one (M := model X.prog X.w) W.here.kIn LT hb
  have name : ∀ {Q : Value → Shared → Prop} {E : Value → Shared → Prop}, Q c s → wpAny (model X.prog X.w) (X.A.mark (some (.ref a))) (eval (.Name x np) X.env) Q E s := fun {Q E} q => by
    obtain ⟨hg, hdbg, hm | ⟨hm, hv, hnn⟩⟩ := hc
    · exact ld_glob (X := X.suite a ((a, oe) :: (X.pn ++ pins))) S hg hm q hdbg
    · exact ld_blt (X := X.suite a ((a, oe) :: (X.pn ++ pins))) S hg hm hv q hnn hdbg
  exact name (LM.here h)
/-- a clause that doesn't take it -/
theorem Down.skip (W : Down X pins σ H sI s B a C dd) (hs : X.stack = X.env :: X.outer) (hf : X.env.frame = some X.env.locals) (hx : X.ex = []) (hc : Names X x c) (hb : PySem.W.exmOne X.K (.ref C) c = some false)
    (h : wpAny (model X.prog X.w) X.A (handleBy (.ref a) X.env rest) (SP X pins D) X.xe s) :
    wpAny (model X.prog X.w) X.A (handleBy (.ref a) X.env (.ExceptHandler (some (.Name x np)) (some n) (b₀ :: suite) pos' :: rest)) (SP X pins D) X.xe s := by
  refine wpAny_handleBy_cons (W.test hs hf hx hc hb ?_) (by intro q; cases q)
  exact h
/-- a clause that takes it: behind the suite the error is tracked -/
theorem Down.keep {ts : TS} (W : Down X pins σ H sI s B a C dd) (hs : X.stack = X.env :: X.outer) (hf : X.env.frame = some X.env.locals) (hx : X.ex = []) (hc : Names X x c) (hb : PySem.W.exmOne X.K (.ref C) c = some true)
    (hN : X.N.Nodup) (hi : X.N[i]? = some n) (hln : X.env.kindOf n = some .local)
    (hsu : ∀ (oe : Obj) (pn : List (Addr × Obj)), Zc (.ref C) (some dd) oe → (∃ vs, oe.data = .fields vs) → PSs (X.suite a ((a, oe) :: pn)) (b₀ :: suite) ts)
    (h : ts { nx := fun σ' H' => D.nx (σ'.set i none) (upd H' a (exE a C dd)), rt := fun _ _ => False, bk := fun _ _ => False, ct := fun _ _ => False } (σ.set i (some (.ref a))) H) :
    wpAny (model X.prog X.w) X.A (handleBy (.ref a) X.env (.ExceptHandler (some (.Name x np)) (some n) (b₀ :: suite) pos' :: rest)) (SP X pins D) X.xe s := by
  have ok := W.inv.ok
  obtain ⟨h0, nL, nF, nC, nP⟩ := W.new hs hf hx
  refine wpAny_handleBy_cons (W.test hs hf hx hc hb ?_) (by intro q; cases q)
  refine codeAny_handlers_suite_as ?_
  refine HandSPX.lands_againZ W.fl fun h4 fl4 up4 => ?_
  have W4 : Down X pins σ H sI { s with heap := h4 } B a C dd := ⟨W.inv, W.nb, W.up.trans up4, fl4, W.na, W.os, W.ag⟩
  obtain ⟨oe, vs, he, hz, hd⟩ := fl4.there
  have S4 := W4.here.suite he hd W.na nL nF
  refine store_ok (X := X.suite a ((a, oe) :: (X.pn ++ pins))) (v := .ref a) S4 hN hi (.inl hln) rfl (fun s5 S5 => ?_) (.inr hln)
  refine wpAny_mono ((hsu oe (X.pn ++ pins) hz ⟨_, hd⟩).run [] s5 _ H _ S5 h) (fun f s6 hsp => ?_) (fun _ _ z => False.elim z)
  cases f with
  | next =>
    obtain ⟨σ6, H6, S6, q6⟩ := hsp
    refine gone_ok (X := X.suite a ((a, oe) :: (X.pn ++ pins))) S6 hN hi hln fun s7 S7 => ?_
    obtain ⟨g1, g2, _⟩ := S7.pin (a, oe) (List.mem_append_left _ List.mem_cons_self)
    have I7 : L2.Inv X pins (σ6.set i none) H6 s7 := S7.unsuite ok
    exact ⟨_, _, track I7 g2 h0 nL nC nP (exE_ok g1 hz.1 hz.2 hd), q6⟩
  | brk =>
    obtain ⟨_, _, _, q6⟩ := hsp
    exact q6.elim
  | cont =>
    obtain ⟨_, _, _, q6⟩ := hsp
    exact q6.elim
  | ret u =>
    obtain ⟨_, _, _, _, _, q6⟩ := hsp
    exact q6.elim
end
section
variable {X : Cx} {C fI : Addr}
/-- C(e), to be raised: its dict is new -/
def tMkX (C : Addr) (ta : TA) : L2.St → Hp → XK → Prop := fun σ H Q => ta σ H fun vs H1 => ∃ v, vs = [v] ∧ ∀ d, H1 d = none → Q (.ref C) (some d) (upd H1 d (valD v))
theorem pmk_ex {x : Str} {a : Expr} {ta : TA} {p pos : Pos} {k : Nat} (T : Kexc.ExTx X.K fI) (U : Kexc.ExCl X.K C fI) (hr : Room k X.A) (hg : Gl X x) (gC : X.mg x = some (.ref C)) (ha : PA X [a] ta) (hdb : (x == ("__debug__" : Str)) = false := by decide)
    (he : starEach (a :: []) X.env = (false, eval a X.env) :: starEach [] X.env := by rfl) (hpl : (backTo pos (starEach [] X.env)).any (·.1) = false := by rfl) :
    PMk X (.Call (.Name x p) [a] [] pos) (tMkX C ta) := by
  intro pins s σ H Q I h
  refine wpAny_Call_Name_kw (ld_glob I hg gC ?_ hdb)
  refine PySem.W.callWith_K (h₀ := X.base) I.ok.mod.kin U.kC (thn (ha.run pos pins s σ H _ I h) fun us s1 hh => ?_) he hpl
  obtain ⟨vs, H1, I1, r1, v, ev, q1⟩ := hh
  subst ev
  refine ⟨I1.kIn, ?_⟩
  cases r1 with
  | cons rv rn =>
    rename_i v' us'
    cases rn
    show wpAny _ _ (call (.ref C) [v']) _ _ _
    have hlim := I1.nolimit
    refine wpAny_call (Kexc.ex_made T U I1.kIn hlim (by have := hr.dp; omega) fun h' tk' e d M => ?_)
    show MkP X pins σ Q (.ref e) _
    obtain ⟨oe, fv, hoe, hc, hd, hdat, h1⟩ := M.obj
    obtain ⟨G, g1, g2⟩ := restrict h' fun b => decide (b ≠ e)
    have gk : ∀ b, b ≠ e → G.get? b = h'.get? b := fun b hb => g1 b (decide_eq_true hb)
    have ge : G.get? e = none := g2 e (by simp)
    have old : ∀ b o, s1.heap.get? b = some o → G.get? b = some o := fun b o q => (gk b (Nat.ne_of_lt (Nat.lt_of_lt_of_le (Heap.lt_size q) M.new))).trans (M.keep b o q)
    have ob : ObjOk X.prog X.w (upd H1 d (valD v)) G d (valD v) := ⟨_, M.ns.at (fun o q => (gk d M.dne).trans q), fun f => relO_val rv f⟩
    have J : L2.Inv X pins σ (upd H1 d (valD v)) { s1 with heap := G, toks := tk' } := I1.laid (t' := tk') old M.dbig ob
    refine ⟨e, oe, fv, { s1 with heap := G, toks := tk' }, _, .ref C, some d, rfl, J, fun b o q => ?_, ge, hoe, ⟨hc, hd⟩, hdat, h1, ?_, rfl, I1.bare, raises_own U.exC U.tyC, q1 d (I1.hok.fresh M.dbig)⟩
    · by_cases hb : b = e
      · have q' : G.get? b = some o := q
        rw [hb, ge] at q'
        cases q'
      · exact (gk b hb).symm.trans q
    · rw [upd_ne (Ne.symm M.dne)]
      exact I1.hok.fresh M.new
/-- try: raise C(e), whatever the clauses do with it -/
theorem ps_try_raise {x : Str} {a : Expr} {ta : TA} {p pos pr tpos : Pos} {k : Nat} {hd0 : ExceptHandler} {hds : List ExceptHandler} {wd : Addr → Addr → Ends → L2.St → Hp → Prop} (hcalm : X.calm = true) (hs : X.stack = X.env :: X.outer) (hf : X.env.frame = some X.env.locals)
    (T : Kexc.ExTx X.K fI) (U : Kexc.ExCl X.K C fI) (hr : Room k X.A) (hg : Gl X x) (gC : X.mg x = some (.ref C)) (ha : ∀ (pn : List (Addr × Obj)) (xe : Value → Shared → Prop), PA (X.tr pn xe) [a] ta)
    (hand : ∀ (pins : List (Addr × Obj)) (D : Ends) (σ : L2.St) (H : Hp) (sI s : Shared) (B : Heap) (e d : Addr), Down X pins σ H sI s B e C d → wd e d D σ H → wpAny (model X.prog X.w) X.A (handleBy (.ref e) X.env (hd0 :: hds)) (SP X pins D) X.xe s)
    (hdb : (x == ("__debug__" : Str)) = false := by decide) (he : starEach (a :: []) X.env = (false, eval a X.env) :: starEach [] X.env := by rfl) (hpl : (backTo pos (starEach [] X.env)).any (·.1) = false := by rfl) :
    PS X (.Try [.Raise (some (.Call (.Name x p) [a] [] pos)) none pr] (hd0 :: hds) [] [] tpos) (fun D σ H => tMkX C ta σ H fun cls d H1 => ∃ dd, cls = .ref C ∧ d = some dd ∧ ∀ e, H1 e = none → wd e dd D σ H1) := by
  refine ⟨fun pins s σ H D I h => ?_⟩
  have ok := I.ok
  have hfr : X.A.frames = some (X.env :: X.outer) := by rw [ok.frames, hs]
  refine wpAny_Try_except ?_
  have W : Takes (X.tr (X.pn ++ pins) (fun e s₁ => wpAny (model X.prog X.w) X.A (noteFrame e X.env) (fun _ s₂ => wpAny (model X.prog X.w) X.A (setFlight e none) (fun _ s₃ => wpAny (model X.prog X.w) X.A (handleBy e X.env (hd0 :: hds)) (SP X pins D) X.xe s₃) X.xe s₂) X.xe s₁))
      (fun cls d σ1 H1 => ∃ dd, cls = .ref C ∧ d = some dd ∧ ∀ e, H1 e = none → wd e dd D σ1 H1) := by
    intro u s' xx
    obtain ⟨e, B, sI, pins', σ', H', cls, d, rfl, J', nb, up, sky, na, os, ag, dd, rfl, rfl, w⟩ := xx
    have J : L2.Inv X pins σ' H' sI := J'.ofTry ok
    have sky' : Sky B (X.env :: X.outer) e (Zc (.ref C) (some dd)) X.env.locals s'.heap := by rw [← hs]; exact sky
    show wpAny (model X.prog X.w) X.A (noteFrame (.ref e) X.env) _ _ _
    refine Sky.land Zc.steady hfr hf sky' fun h3 fl3 up3 => ?_
    exact hand pins D σ' H' sI { s' with heap := h3 } B e dd ⟨J, nb, up.trans up3, fl3, na, os, ag⟩ (w e na)
  have R := ps_raise (X := X.tr (X.pn ++ pins) _) (pos := pr) hcalm W (pmk_ex (X := X.tr (X.pn ++ pins) _) (pos := pos) (p := p) (k := k) T U hr hg gC (ha _ _) hdb he hpl)
  refine wpAny_mono ((pss_one R).run [] s σ H D (I.toTry _) h) (fun f s1 hsp => ?_) (fun e s1 he => he)
  cases f with
  | next =>
    obtain ⟨σ', H', J', q⟩ := hsp
    exact wpAny_execs_nil ⟨σ', H', J'.ofTry ok, q⟩
  | brk =>
    obtain ⟨σ', H', J', q⟩ := hsp
    exact ⟨σ', H', J'.ofTry ok, q⟩
  | cont =>
    obtain ⟨σ', H', J', q⟩ := hsp
    exact ⟨σ', H', J'.ofTry ok, q⟩
  | ret u =>
    obtain ⟨v, σ', H', J', r, q⟩ := hsp
    exact ⟨v, σ', H', J'.ofTry ok, r, q⟩
end
end Kzero
end

section
set_option Elab.async false
set_option linter.all false
set_option maxRecDepth 100000
set_option maxHeartbeats 2000000
/-! a def's promise where no guard runs (repr asks that), and the end of such a law -/
namespace Kzero
open PySem PySem.Spec PyProof.Rows L2
structure FnOkG (P : Program) (w : World) (K : PySem.W.Frag) (mg : Str → Option Value) (base : Heap) (k : Nat) (f : Addr) (fd : FuncData) (ps : List Str) (sp : Sp) : Prop where
  len : ∀ vs H Q E, sp vs H Q E → vs.length = ps.length
  run : ∀ (A : Around) (outer : List Env) (s : Shared) (H : Hp) (args : Args) (us : List Value) (vs : List V) (Q : VK) (E : XK), A.guards = some [] → Room k A → Env0 P w K mg base A outer s H → BindsTo s fd args (ps.zip us) → L2.Vals vs us → sp vs H Q E →
    codeAny (model P w) A (.call (.ref f) args) (CR CX0 outer P w H s Q E) s
section
variable {P : Program} {w : World} {K : PySem.W.Frag} {mg : Str → Option Value} {base : Heap}
theorem okG {x qual : Str} {st : Stmt} {f : Addr} {fd : FuncData} {N ps : List Str} {k : Nat} {sp : Sp} (F : Fun K x qual st f fd) (S : FnScope N ps (defScope st)) (len : ∀ vs H Q E, sp vs H Q E → vs.length = ps.length)
    (hbody : ∀ (cdv : Value) (A : Around) (outer : List Env) (s : Shared) (H : Hp) (vs : List V) (Q : VK) (E : XK), (A.deeper (envOfC qual (defScope st) s.heap.objs.size f cdv)).guards = some [] → Room k (A.deeper (envOfC qual (defScope st) s.heap.objs.size f cdv)) → sp vs H Q E →
      ∃ t, PSs (cxOf CX0 P w K mg base N qual (defScope st) f cdv A outer s H E).nox (defBody st) t ∧ t { nx := fun _ H' => Q .non H', rt := Q } (start N vs) H) : FnOkG P w K mg base (k + 1) f fd ps sp := by
  obtain ⟨oc, od, kV, doc, pm, an, cdv, ct, osl, rfl, lk, hcd⟩ := F.ex
  refine ⟨len, fun A outer s H args us vs Q E hG hr e0 hb r hsp => ?_⟩
  have hl := len _ _ _ _ hsp
  have KX : K.In s.heap := e0.mod.kin.keeps fun b o e => (e0.bs b o e).1
  have lim : s.heap.NoLimit := e0.mod.nolimit.keeps fun b o e => (e0.bs b o e).1
  have kinds : ∀ y ∈ ps.zip us, (defScope st).names.lookup y.1 = some .local ∨ ((defScope st).names.lookup y.1 = some .cell ∧ ((cellsFrom (s.heap.objs.size + 1) (defScope st).names []).lookup y.1).isSome = true) := fun ⟨n, v⟩ hy => by
    rcases S.par n (List.of_mem_zip hy).1 with q | q
    · exact .inl q
    · exact .inr ⟨q, PySem.W.cellsFrom_some _ _ _ (.inl q)⟩
  refine codeAny_call_function hr.depth (KX _ _ lk) rfl S.co S.gen rfl (PySem.W.codeRec_of KX hcd) (hb _ _ _ _ ?_)
  refine wpAny_newFunctionEnv_cells S.kind kinds fun env he s1 x => ?_
  subst he
  refine ⟨lim.keeps x.toInCall.keep, codeAny_func ?_⟩
  obtain ⟨t, ht, hq⟩ := hbody cdv A outer s H vs Q E hG (hr.deeper _) hsp
  have I : L2.Inv (cxOf CX0 P w K mg base N qual (defScope st) f cdv A outer s H E) [] (start N vs) H s1 := inv_start S hr.hd e0 hl r x
  refine wpAny_mono (ht.nox.run [] s1 (start N vs) H _ I hq) (fun fl s' hs => ?_) fun e s' hs => hs
  have fin : ∀ {σ' : L2.St} {H' : Hp} {v : V} {u : Value}, L2.Inv (cxOf CX0 P w K mg base N qual (defScope st) f cdv A outer s H E) [] σ' H' s' → L2.RelV v u → Q v H' → CE outer P w H s Q u s' :=
    fun {σ' H' v u} J rv q => ⟨v, H', J.os, J.bare, J.base, J.hok, rv, q⟩
  cases fl with
  | ret u =>
    obtain ⟨v, σ', H', J, rv, q⟩ := hs
    exact fin J rv q
  | next =>
    obtain ⟨σ', H', J, q⟩ := hs
    exact fin (v := V.non) (u := Value.none) J rfl q
  | brk =>
    obtain ⟨_, _, _, q⟩ := hs
    exact False.elim q
  | cont =>
    obtain ⟨_, _, _, q⟩ := hs
    exact False.elim q
end
section
variable {X : Cx} {k : Nat} {f : Addr} {fd : FuncData} {ps : List Str} {sp : Sp} {E : XK} {x : Str} {p pos : Pos} {e : Expr} {es : List Expr} {t : TA}
theorem pe_callG (F : FnOkG X.prog X.w X.K X.mg X.base k f fd ps sp) (hG : X.A.guards = some []) (hr : Room k X.A) (hg : Gl X x) (hm : X.mg x = some (.ref f)) (hk : PySem.W.keepIn X.K (.ref f) = true) (hb : Binds X.K fd ps []) (hx : Passes CX0 X E)
    (ha : PA X (e :: es) t) (hdb : (x == ("__debug__" : Str)) = false := by decide) (he : starEach (e :: es) X.env = (false, eval e X.env) :: starEach es X.env := by rfl) (hpl : (backTo pos (starEach es X.env)).any (·.1) = false := by rfl) :
    PE X (.Call (.Name x p) (e :: es) [] pos) (tCall sp [] E t) := by
  refine ⟨fun pins s σ H Q I h => ?_⟩
  refine wpAny_Call_Name_kw (ld_glob I hg hm ?_ hdb)
  refine PySem.W.callWith_K (h₀ := X.base) I.ok.mod.kin hk (thn (ha.run pos pins s σ H _ I h) fun us s1 ⟨vs, H1, I1, r, q⟩ => ⟨I1.kIn, ?_⟩) he hpl
  have q' : sp vs H1 Q E := by
    have z : sp (vs ++ []) H1 Q E := q
    rwa [List.append_nil] at z
  have hl : (us ++ []).length = ps.length := by
    rw [List.append_nil, ← r.length]
    exact F.len _ _ _ _ q'
  have hbind := hb s1 us I1.kIn hl
  rw [List.append_nil] at hbind
  refine wpAny_call (codeAny_mono (F.run X.A X.stack s1 H1 ⟨us, []⟩ us vs Q E hG hr I1.env0 hbind r q') fun r s' hq => ?_)
  cases r with
  | error e => exact hx pins σ H1 s1 e s' I1 hq
  | ok fl =>
    cases fl with
    | ret u => exact I1.after hq
    | next => exact False.elim hq
    | brk => exact False.elim hq
    | cont => exact False.elim hq
end
/-- the law's own call; that something stands at the modules' table is known of the base -/
theorem law_callG {P : Program} {w : World} {K : PySem.W.Frag} {mg mb : Str → Option Value} {k : Nat} {fa a : Addr} {fd : FuncData} {x : Str} {sp : Sp} {s₁ : Shared} {vs : List Value} {ns : List Int}
    (KX : K.In s₁.heap) (hns : s₁.heap.Ns mainGlobals mg) (hb : s₁.heap.Ns builtinsNs mb) (hbb : ∀ x : Str, x ≠ "__name__" → mb x = bootBuiltins x) (hlim : s₁.heap.NoLimit) (hmods : ∃ mm, s₁.heap.Ns sysModules mm) (hg : s₁.gens = #[])
    (ha : s₁.heap.get? a = some { cls := .type "list", data := .seq vs.toArray }) (hi : IntsAre vs ns) (hl : ns.length ≤ sizeLine) (hr : Room k callerA)
    (F : ∀ base : Heap, K.In base → base.Ns mainGlobals mg → (∃ o, base.get? sysModules = some o) → FnOkG P w K mg base k fa fd [x] sp) (hbind : ∀ (s : Shared) (u : Value), BindsTo s fd ⟨[u], []⟩ [(x, u)])
    (hsp : ∀ H : Hp, SqL K H a (ns.map V.int) → sp [.ref a] H (fun v _ => v = .bl true) fun _ _ _ => False) :
    codeAny (model P w) callerA (.call (.ref fa) ⟨[.ref a], []⟩) (fun r s' => r = .ok (.ret (.bool true)) ∧ OldK s₁.heap s'.heap ∧ s'.os = s₁.os ∧ AllBare s'.gens) s₁ := by
  have rv := vals_ints hi
  have lenV := hi.length
  have main : ∀ H : Hp, Only H → SqL K H a (ns.map V.int) → HOk P w H s₁.heap → (∀ b, H b ≠ none → b = a) → (H a ≠ none → K.lookup a = none) →
      codeAny (model P w) callerA (.call (.ref fa) ⟨[.ref a], []⟩) (fun r s' => r = .ok (.ret (.bool true)) ∧ OldK s₁.heap s'.heap ∧ s'.os = s₁.os ∧ AllBare s'.gens) s₁ := by
    intro H hO hS hok hA hK
    have none_dict : ∀ {b : Addr} {o : Obj} {es : Array DictEntry} {ep : Nat}, s₁.heap.get? b = some o → o.data = .dict es ep → H b = none := fun {b o es ep} e d => by
      cases q : H b with
      | none => rfl
      | some u =>
        have e' : b = a := hA b (by rw [q]; simp)
        rw [e', ha] at e
        cases e
        have d' : Data.seq vs.toArray _ = Data.dict es ep := d
        cases d'
    have nsK : ∀ {b : Addr} {m : Str → Option Value}, s₁.heap.Ns b m → (hidT s₁.heap H).Ns b m := fun {b m} ⟨o, es, ep, e, d, r⟩ => ⟨o, es, ep, hidT_get e (none_dict e d), d, r⟩
    have kin : K.In (hidT s₁.heap H) := fun b o e => hidT_get (KX b o e) (by
      cases q : H b with
      | none => rfl
      | some u =>
        have e' : b = a := hA b (by rw [q]; simp)
        rw [e', hK (by rw [← e', q]; simp)] at e
        cases e)
    have hM : Mod K mg (hidT s₁.heap H) := ⟨kin, nsK hns, ⟨mb, nsK hb, hbb⟩, let ⟨mc, h1, h2⟩ := hlim; ⟨mc, nsK h1, h2⟩⟩
    have mods : ∃ o, (hidT s₁.heap H).get? sysModules = some o := by
      obtain ⟨mm, z⟩ := hmods
      obtain ⟨o, es, ep, e, _⟩ := nsK z
      exact ⟨o, e⟩
    have e0 : Env0 P w K mg (hidT s₁.heap H) callerA [] s₁ H := ⟨rfl, hM, fun b o e => of_hidT e, Nat.le_of_eq (hidT_size _ _), trivial, fun b hb => absurd (show b ∈ ([] : List Addr) from hb) (by simp), hok, .of_eq hg⟩
    refine codeAny_mono ((F _ kin (nsK hns) mods).run callerA [] s₁ H ⟨[.ref a], []⟩ [.ref a] [.ref a] _ _ rfl hr e0 (hbind s₁ (.ref a)) (.cons rfl .nil) (hsp H hS)) fun r s' h => ?_
    cases r with
    | error e => exact False.elim h
    | ok fl =>
      cases fl with
      | next => exact False.elim h
      | brk => exact False.elim h
      | cont => exact False.elim h
      | ret u =>
        obtain ⟨v, H', os, bare, un, hok', r', q⟩ := h
        have q' : v = .bl true := q
        subst q'
        obtain rfl : u = Value.bool true := r'
        refine ⟨rfl, OldK.of_keep fun b o e => ?_, os, bare⟩
        cases q : H b with
        | none => exact un.keep b o e q (by intro z; exact absurd (show b ∈ ([] : List Addr) from z) (by simp)) (by simp)
        | some u =>
          rcases hO b with z | ⟨ob, xs, z⟩
          · rw [q] at z
            cases z
          · have z2 := un.frzs b ob _ z
            obtain ⟨e1, _⟩ := hok b _ z
            obtain ⟨e2, _⟩ := hok' b _ z2
            rw [e] at e1
            cases e1
            exact e2
  cases hk : K.lookup a with
  | some o =>
    have e := KX a o hk
    rw [ha] at e
    cases e
    refine main (fun _ => none) (fun _ => .inl rfl) (.inr ⟨_, vs.toArray, _, hk, rfl, rfl, rfl, by rw [List.size_toArray, lenV]; exact hl, by simpa using rv⟩) (fun b u z => by have z' : (none : Option HO) = some u := z; cases z') (fun b z => absurd rfl z) fun z => absurd rfl z
  | none =>
    refine main (fun b => if b = a then some (.frz { cls := .type "list", data := .seq vs.toArray } (.lst (ns.map V.int))) else none) (fun b => ?_) (.inl (.inr ⟨{ cls := .type "list", data := .seq vs.toArray }, if_pos rfl⟩)) (fun b u z => ?_) (fun b z => ?_) fun _ => hk
    · by_cases hb : b = a
      · exact .inr ⟨_, _, if_pos hb⟩
      · exact .inl (if_neg hb)
    · by_cases hb : b = a
      · have z' := (if_pos hb).symm.trans z
        cases z'
        subst hb
        exact ⟨ha, by rw [List.length_map]; exact hl, vs, _, rv, ha⟩
      · have z' := (if_neg hb).symm.trans z
        cases z'
    · by_cases hb : b = a
      · exact hb
      · exact absurd (if_neg hb) z
theorem walkG {l : PySem.W.OpenLaw} {n k : Nat} {q : Program} {loose : List Str} {XP : (Str → Option Value) → Heap → Prop} {YP : World → Heap → Prop} {d : DefRec} {K : Params → PySem.W.Frag} {sp : PySem.W.Frag → Sp} {x : Str}
    (hn : l.most = some n) (hn2 : n ≤ sizeLine) (hdf : d.params.defaults = []) (hr : Room k callerA) (hi : importsNone q = true)
    (hY : ∀ (w : World) (h : Heap), YP w h → (K w.params).In h)
    (F : ∀ (w : World) (mg : Str → Option Value) (fa : Addr) (h : Heap), (K w.params).In h → h.Ns mainGlobals mg → mg d.name = some (.ref fa) →
      ∃ fd : FuncData, (∀ (s : Shared) (u : Value), BindsTo s fd ⟨[u], []⟩ [(x, u)]) ∧
        ∀ base : Heap, (K w.params).In base → base.Ns mainGlobals mg → (∃ o, base.get? sysModules = some o) → FnOkG l.prog w (K w.params) mg base k fa fd [x] (sp (K w.params)))
    (hsp : ∀ (K : PySem.W.Frag) (H : Hp) (a : Addr) (ns : List Int), ns.length ≤ n → SqL K H a (ns.map V.int) → sp K [.ref a] H (fun v _ => v = .bl true) fun _ _ _ => False) :
    PySem.W.WalkO q loose XP YP l.row.toRowW d [] (fun f vs => PySem.call f vs) := by
  refine Att.attach_call hn hdf fun w s₀ s₁ mg mb fa o pm cd doc a vs ns G Y ho hd hcd hmg hobj hints hlen hg => ?_
  have KX := hY w _ Y
  obtain ⟨fd, hb, hF⟩ := F w mg fa _ KX G.T.g hmg
  obtain ⟨mm, hm, _⟩ := (G.T.seer hi).mods
  exact law_callG KX G.T.g G.T.b G.T.builtins G.T.nolimit ⟨mm, hm⟩ hg hobj hints (Nat.le_trans hlen hn2) hr hF hb fun H hS => hsp _ H a ns hlen hS
end Kzero
end

section
set_option Elab.async false
set_option linter.all false
set_option maxRecDepth 100000
set_option maxHeartbeats 4000000
namespace Kzero
open PySem PySem.Spec PyProof.Rows L2
def nmsC : List Str := [("BadBook" : Str), ("Unnamed" : Str), ("Upward" : Str), ("NoDeed" : Str), ("BadDeeds" : Str), ("BadStore" : Str), ("BadRow" : Str), ("NoKey" : Str), ("Gone" : Str), ("BadWorth" : Str), ("Lasting" : Str), ("OtherStore" : Str), ("BadInput" : Str), ("BadMemory" : Str), ("BadMachine" : Str), ("BadState" : Str), ("BadLetter" : Str), ("Unlike" : Str), ("TooMany" : Str), ("BadOffers" : Str), ("BadWish" : Str), ("BadPrices" : Str), ("BadLetters" : Str), ("BadRows" : Str), ("BadWishes" : Str), ("BadKeys" : Str), ("BadHands" : Str), ("BadSteps" : Str), ("BadTelling" : Str), ("NoEffect" : Str), ("OtherBook" : Str), ("Stuck" : Str), ("BadSwitch" : Str), ("OtherPreview" : Str), ("Showing" : Str), ("Spoilt" : Str), ("BadLine" : Str)]
/-- what the written part says of the errors' classes -/
structure TxtE (K : PySem.W.Frag) (mg : Str → Option Value) (fI C0 : Addr) (c : Nat → Addr) : Prop where
  ex : Kexc.ExTx K fI
  u0 : Kexc.ExCl K C0 fI
  g0 : mg "OnlyError" = some (.ref C0)
  cl : ∀ i, i < 37 → Kexc.ExCl K (c i) fI
  gm : ∀ (i : Nat) (x : Str), nmsC[i]? = some x → mg x = some (.ref (c i))
  kit : ∀ i j, i < 37 → j < 37 → PySem.W.kitOne K (.ref (c i)) (.ref (c j)) = some (decide (i = j))
  kit0 : ∀ i, i < 37 → PySem.W.kitOne K (.ref (c i)) (.ref C0) = some true
  kitV : ∀ i, i < 37 → PySem.W.kitOne K (.ref (c i)) (.type "ValueError") = some true
  kin0 : ∀ j, j < 37 → PySem.W.kitOne K (.ref C0) (.ref (c j)) = some false
  kV0 : PySem.W.kitOne K (.ref C0) (.type "ValueError") = some true
  e1 : PySem.W.exmOne K (.ref (c 18)) (.ref C0) = some true
  e2 : PySem.W.exmOne K (.ref (c 31)) (.ref (c 36)) = some false
  e3 : PySem.W.exmOne K (.ref (c 31)) (.ref (c 31)) = some true
  isi : mg "isinstance" = none
  ve : mg "ValueError" = none
  enu : mg "enumerate" = none
  rep : mg "repr" = none
  rng : mg "range" = none
  len : mg "len" = none
  any : mg "any" = none
section
variable {X : Cx} {σ : L2.St} {H : Hp}
theorem pa_weak {es : List Expr} {t t' : TA} (h : PA X es t) (w : ∀ σ H Q, t' σ H Q → t σ H Q) : PA X es t' := ⟨fun pos pins s σ H Q I q => h.run pos pins s σ H Q I (w σ H Q q)⟩
/-- errors made of the value in slot 0, one behind the other -/
def tMks (cs : List Addr) : TA := fun σ H Q => ∃ v, σ[0]? = some (some v) ∧ ∀ (es : List Addr) (H' : Hp), es.length = cs.length → (∀ (i : Nat) (e C : Addr), es[i]? = some e → cs[i]? = some C → ExAt H' e C v) → Same H H' → Q (es.map V.ref) H'
theorem pa_mk0 : PA X [] (tMks []) := pa_weak pa_nil fun σ H Q ⟨v, hv, k⟩ => k [] H rfl (fun i e C h => by simp at h) fun _ _ e => e
theorem pa_mk1 {e : Expr} {es : List Expr} {C : Addr} {cs : List Addr} (he : PE X e (tMkE C (tCons (tVar 0) tNil))) (hr : PA X es (tMks cs)) (hs : starEach (e :: es) X.env = (false, eval e X.env) :: starEach es X.env := by rfl) : PA X (e :: es) (tMks (C :: cs)) :=
  pa_weak (pa_cons he hr hs) fun σ H Q ⟨v, hv, k⟩ => ⟨v, hv, v, rfl, fun e d h1 h2 hne => ⟨v, hv, fun es H' hl ha hsm => by
    have s0 : Same H (upd (upd H d (valD v)) e (exE e C d)) := fun b o q => by
      rw [upd_ne (ne_of_none q h1), upd_ne (ne_of_none q h2)]
      exact q
    refine k (e :: es) H' (by simp [hl]) (fun i x D hx hD => ?_) (s0.trans hsm)
    cases i with
    | zero =>
      obtain rfl : e = x := by simpa using hx
      obtain rfl : C = D := by simpa using hD
      exact ⟨d, hsm _ _ upd_same, hsm _ _ (by rw [upd_ne hne]; exact upd_same)⟩
    | succ i => exact ha i x D (by simpa using hx) (by simpa using hD)⟩⟩
/-- isinstance of the error in slot 0, for the classes of these numbers -/
def tIsis (K : PySem.W.Frag) (fI : Addr) (c : Nat → Addr) (js : List Nat) : TA := fun σ H Q => ∃ (e C : Addr) (v : V) (kb : Nat → Bool), σ[0]? = some (some (.ref e)) ∧ ExAt H e C v ∧ Kexc.ExCl K C fI ∧ (∀ j, j < 37 → PySem.W.kitOne K (.ref C) (.ref (c j)) = some (kb j)) ∧ Q (js.map fun j => V.bl (kb j)) H
theorem pa_is0 {K : PySem.W.Frag} {fI : Addr} {c : Nat → Addr} : PA X [] (tIsis K fI c []) := pa_weak pa_nil fun σ H Q ⟨e, C, v, kb, _, _, _, _, k⟩ => k
theorem pa_is1 {fI : Addr} {c : Nat → Addr} {j : Nat} {e : Expr} {es : List Expr} {js : List Nat} (hj : j < 37) (he : PE X e (tCB (rIsX X.K fI) (tCons (tVar 0) (tCons (tC (.ref (c j))) tNil)))) (hr : PA X es (tIsis X.K fI c js))
    (hs : starEach (e :: es) X.env = (false, eval e X.env) :: starEach es X.env := by rfl) : PA X (e :: es) (tIsis X.K fI c (j :: js)) :=
  pa_weak (pa_cons he hr hs) fun σ H Q ⟨e, C, v, kb, hv, hE, hU, hk, k⟩ => by
    obtain ⟨d, g1, g2⟩ := id hE
    exact ⟨_, hv, e, C, d, _, _, _, rfl, g1, ⟨v, g2⟩, hU, fun u r => r, hk j hj, e, C, v, kb, hv, hE, hU, hk, k⟩
end
/-! ### the lists that grow -/
structure Acc (H0 H : Hp) (l : Addr) (c : Nat → Addr) (v : V) (n : Nat) (es : List Addr) : Prop where
  lst : H l = some (.lst (es.map V.ref))
  len : es.length = n
  at_ : ∀ (i : Nat) (e : Addr), es[i]? = some e → ExAt H e (c i) v
  same : Same H0 H
theorem acc_first {H0 H : Hp} {c : Nat → Addr} {v : V} {n : Nat} {cs es : List Addr} {p : Addr} (hl : es.length = cs.length) (hn : cs.length = n) (hc : ∀ i : Nat, i < n → cs[i]? = some (c i)) (ha : ∀ (i : Nat) (e C : Addr), es[i]? = some e → cs[i]? = some C → ExAt H e C v) (hs : Same H0 H) (hp : H p = none) :
    Acc H0 (upd H p (.lst (es.map V.ref))) p c v n es where
  lst := upd_same
  len := by rw [hl, hn]
  at_ := fun i e he => (ha i e _ he (hc i (by rw [← hn, ← hl]; exact (List.getElem?_eq_some_iff.mp he).1))).same (same_new hp)
  same := hs.trans (same_new hp)
theorem acc_next {H0 H H1 : Hp} {l : Addr} {c : Nat → Addr} {v : V} {n m : Nat} {cs es es2 : List Addr} {q p : Addr} (A : Acc H0 H l c v n es) (hl : es2.length = cs.length) (hn : cs.length = m) (hc : ∀ i : Nat, i < m → cs[i]? = some (c (n + i))) (ha : ∀ (i : Nat) (e C : Addr), es2[i]? = some e → cs[i]? = some C → ExAt H1 e C v)
    (hs : Same H H1) (hq : H1 q = none) (hp : upd H1 q (.lst (es2.map V.ref)) p = none) : Acc H0 (upd (upd H1 q (.lst (es2.map V.ref))) p (.lst (es.map V.ref ++ es2.map V.ref))) p c v (n + m) (es ++ es2) where
  lst := by rw [upd_same, List.map_append]
  len := by rw [List.length_append, A.len, hl, hn]
  at_ := fun i e he => by
    have sm : Same H1 (upd (upd H1 q (.lst (es2.map V.ref))) p (.lst (es.map V.ref ++ es2.map V.ref))) := (same_new hq).trans (same_new hp)
    by_cases hi : i < es.length
    · rw [List.getElem?_append_left hi] at he
      exact (A.at_ i e he).same (hs.trans sm)
    · rw [List.getElem?_append_right (by omega)] at he
      have hj : i - es.length < m := by
        rw [← hn, ← hl]
        exact (List.getElem?_eq_some_iff.mp he).1
      have z := ha _ e _ he (hc _ hj)
      have ei : n + (i - es.length) = i := by
        rw [A.len] at hi ⊢
        omega
      rw [ei] at z
      exact z.same sm
  same := A.same.trans (hs.trans ((same_new hq).trans (same_new hp)))
structure BAcc (H0 H : Hp) (l : Addr) (xs : List V) : Prop where
  lst : H l = some (.lst xs)
  same : Same H0 H
theorem bacc_first {H0 : Hp} {kb : Nat → Bool} {js : List Nat} {xs : List V} {p : Addr} (hx : (js.map fun j => V.bl (kb j)) = xs) (hp : H0 p = none) : BAcc H0 (upd H0 p (.lst xs)) p (js.map fun j => V.bl (kb j)) := ⟨by rw [hx]; exact upd_same, same_new hp⟩
theorem bacc_next {H0 H : Hp} {l : Addr} {kb : Nat → Bool} {js js2 : List Nat} {xs : List V} {q p : Addr} (A : BAcc H0 H l (js.map fun j => V.bl (kb j))) (hx : (js2.map fun j => V.bl (kb j)) = xs) (hq : H q = none) (hp : upd H q (.lst xs) p = none) :
    BAcc H0 (upd (upd H q (.lst xs)) p (.lst ((js.map fun j => V.bl (kb j)) ++ xs))) p ((js ++ js2).map fun j => V.bl (kb j)) := ⟨by rw [upd_same, List.map_append, hx], A.same.trans ((same_new hq).trans (same_new hp))⟩
def spMade (c : Nat → Addr) : Sp := fun vs H Q _ => ∃ v, vs = [v] ∧ ∀ (es : List Addr) (H' : Hp) (p : Addr), es.length = 37 → (∀ (i : Nat) (e : Addr), es[i]? = some e → ExAt H' e (c i) v) → H' p = some (.lst (es.map V.ref)) → Same H H' → Q (.ref p) H'
def spMarks (K : PySem.W.Frag) (fI : Addr) (c : Nat → Addr) : Sp := fun vs H Q _ => ∃ (e C : Addr) (v : V) (kb : Nat → Bool), vs = [.ref e] ∧ ExAt H e C v ∧ Kexc.ExCl K C fI ∧ (∀ j, j < 37 → PySem.W.kitOne K (.ref C) (.ref (c j)) = some (kb j)) ∧
  ∀ (H' : Hp) (p : Addr), H' p = some (.lst ((List.range 37).map fun j => V.bl (kb j))) → Same H H' → Q (.ref p) H'
section
variable {P : Program} {w : World} {K : PySem.W.Frag} {mg : Str → Option Value} {base : Heap} {fI C0 : Addr} {c : Nat → Addr}
theorem scMade : FnScope ["_law_one", "_law_found"] ["_law_one"] (defScope sMade) := ⟨rfl, rfl, rfl, by decide +kernel, rfl, by decide +kernel, by decide +kernel⟩
theorem ok_made {f : Addr} {fd : FuncData} (F : Fun K "_law_made" "_law_made" sMade f fd) (T : TxtE K mg fI C0 c) : FnOk P w K mg base CX0 2 f fd ["_law_one"] (spMade c) := by
  refine F.ok scMade (fun vs H Q E h => ?_) (fun cdv A outer s H vs Q E hr h => ?_)
  · obtain ⟨v, rfl, _⟩ := h
    rfl
  · obtain ⟨v, rfl, kk⟩ := h
    refine ⟨_, (pss_cons (ps_set (i := 1) scMade.nd rfl (Or.inl rfl) (pe_lst (pa_mk1 (pe_mkE T.ex (T.cl 0 (by decide)) hr rfl (T.gm 0 _ rfl) (pa_cons (pv 0) pa_nil)) (pa_mk1 (pe_mkE T.ex (T.cl 1 (by decide)) hr rfl (T.gm 1 _ rfl) (pa_cons (pv 0) pa_nil)) (pa_mk1 (pe_mkE T.ex (T.cl 2 (by decide)) hr rfl (T.gm 2 _ rfl) (pa_cons (pv 0) pa_nil)) (pa_mk1 (pe_mkE T.ex (T.cl 3 (by decide)) hr rfl (T.gm 3 _ rfl) (pa_cons (pv 0) pa_nil)) (pa_mk1 (pe_mkE T.ex (T.cl 4 (by decide)) hr rfl (T.gm 4 _ rfl) (pa_cons (pv 0) pa_nil)) (pa_mk1 (pe_mkE T.ex (T.cl 5 (by decide)) hr rfl (T.gm 5 _ rfl) (pa_cons (pv 0) pa_nil)) pa_mk0))))))))
      (pss_cons (ps_set (i := 1) scMade.nd rfl (Or.inl rfl) (pe_op op_cat (pv 1) (pe_lst (pa_mk1 (pe_mkE T.ex (T.cl 6 (by decide)) hr rfl (T.gm 6 _ rfl) (pa_cons (pv 0) pa_nil)) (pa_mk1 (pe_mkE T.ex (T.cl 7 (by decide)) hr rfl (T.gm 7 _ rfl) (pa_cons (pv 0) pa_nil)) (pa_mk1 (pe_mkE T.ex (T.cl 8 (by decide)) hr rfl (T.gm 8 _ rfl) (pa_cons (pv 0) pa_nil)) (pa_mk1 (pe_mkE T.ex (T.cl 9 (by decide)) hr rfl (T.gm 9 _ rfl) (pa_cons (pv 0) pa_nil)) (pa_mk1 (pe_mkE T.ex (T.cl 10 (by decide)) hr rfl (T.gm 10 _ rfl) (pa_cons (pv 0) pa_nil)) (pa_mk1 (pe_mkE T.ex (T.cl 11 (by decide)) hr rfl (T.gm 11 _ rfl) (pa_cons (pv 0) pa_nil)) pa_mk0)))))))))
      (pss_cons (ps_set (i := 1) scMade.nd rfl (Or.inl rfl) (pe_op op_cat (pv 1) (pe_lst (pa_mk1 (pe_mkE T.ex (T.cl 12 (by decide)) hr rfl (T.gm 12 _ rfl) (pa_cons (pv 0) pa_nil)) (pa_mk1 (pe_mkE T.ex (T.cl 13 (by decide)) hr rfl (T.gm 13 _ rfl) (pa_cons (pv 0) pa_nil)) (pa_mk1 (pe_mkE T.ex (T.cl 14 (by decide)) hr rfl (T.gm 14 _ rfl) (pa_cons (pv 0) pa_nil)) (pa_mk1 (pe_mkE T.ex (T.cl 15 (by decide)) hr rfl (T.gm 15 _ rfl) (pa_cons (pv 0) pa_nil)) (pa_mk1 (pe_mkE T.ex (T.cl 16 (by decide)) hr rfl (T.gm 16 _ rfl) (pa_cons (pv 0) pa_nil)) (pa_mk1 (pe_mkE T.ex (T.cl 17 (by decide)) hr rfl (T.gm 17 _ rfl) (pa_cons (pv 0) pa_nil)) pa_mk0)))))))))
      (pss_cons (ps_set (i := 1) scMade.nd rfl (Or.inl rfl) (pe_op op_cat (pv 1) (pe_lst (pa_mk1 (pe_mkE T.ex (T.cl 18 (by decide)) hr rfl (T.gm 18 _ rfl) (pa_cons (pv 0) pa_nil)) (pa_mk1 (pe_mkE T.ex (T.cl 19 (by decide)) hr rfl (T.gm 19 _ rfl) (pa_cons (pv 0) pa_nil)) (pa_mk1 (pe_mkE T.ex (T.cl 20 (by decide)) hr rfl (T.gm 20 _ rfl) (pa_cons (pv 0) pa_nil)) (pa_mk1 (pe_mkE T.ex (T.cl 21 (by decide)) hr rfl (T.gm 21 _ rfl) (pa_cons (pv 0) pa_nil)) (pa_mk1 (pe_mkE T.ex (T.cl 22 (by decide)) hr rfl (T.gm 22 _ rfl) (pa_cons (pv 0) pa_nil)) (pa_mk1 (pe_mkE T.ex (T.cl 23 (by decide)) hr rfl (T.gm 23 _ rfl) (pa_cons (pv 0) pa_nil)) pa_mk0)))))))))
      (pss_cons (ps_set (i := 1) scMade.nd rfl (Or.inl rfl) (pe_op op_cat (pv 1) (pe_lst (pa_mk1 (pe_mkE T.ex (T.cl 24 (by decide)) hr rfl (T.gm 24 _ rfl) (pa_cons (pv 0) pa_nil)) (pa_mk1 (pe_mkE T.ex (T.cl 25 (by decide)) hr rfl (T.gm 25 _ rfl) (pa_cons (pv 0) pa_nil)) (pa_mk1 (pe_mkE T.ex (T.cl 26 (by decide)) hr rfl (T.gm 26 _ rfl) (pa_cons (pv 0) pa_nil)) (pa_mk1 (pe_mkE T.ex (T.cl 27 (by decide)) hr rfl (T.gm 27 _ rfl) (pa_cons (pv 0) pa_nil)) (pa_mk1 (pe_mkE T.ex (T.cl 28 (by decide)) hr rfl (T.gm 28 _ rfl) (pa_cons (pv 0) pa_nil)) (pa_mk1 (pe_mkE T.ex (T.cl 29 (by decide)) hr rfl (T.gm 29 _ rfl) (pa_cons (pv 0) pa_nil)) pa_mk0)))))))))
      (pss_cons (ps_set (i := 1) scMade.nd rfl (Or.inl rfl) (pe_op op_cat (pv 1) (pe_lst (pa_mk1 (pe_mkE T.ex (T.cl 30 (by decide)) hr rfl (T.gm 30 _ rfl) (pa_cons (pv 0) pa_nil)) (pa_mk1 (pe_mkE T.ex (T.cl 31 (by decide)) hr rfl (T.gm 31 _ rfl) (pa_cons (pv 0) pa_nil)) (pa_mk1 (pe_mkE T.ex (T.cl 32 (by decide)) hr rfl (T.gm 32 _ rfl) (pa_cons (pv 0) pa_nil)) (pa_mk1 (pe_mkE T.ex (T.cl 33 (by decide)) hr rfl (T.gm 33 _ rfl) (pa_cons (pv 0) pa_nil)) (pa_mk1 (pe_mkE T.ex (T.cl 34 (by decide)) hr rfl (T.gm 34 _ rfl) (pa_cons (pv 0) pa_nil)) (pa_mk1 (pe_mkE T.ex (T.cl 35 (by decide)) hr rfl (T.gm 35 _ rfl) (pa_cons (pv 0) pa_nil)) pa_mk0)))))))))
      (pss_cons (ps_set (i := 1) scMade.nd rfl (Or.inl rfl) (pe_op op_cat (pv 1) (pe_lst (pa_mk1 (pe_mkE T.ex (T.cl 36 (by decide)) hr rfl (T.gm 36 _ rfl) (pa_cons (pv 0) pa_nil)) pa_mk0))))
      (pss_one (ps_ret (pv 1)))))))))), ?_⟩
    refine ⟨_, rfl, fun es1 H1 hl1 ha1 hs1 => ⟨(by rw [List.length_map, hl1]; show 6 ≤ sizeLine; decide), fun p1 hp1 => ?_⟩⟩
    have A1 := acc_first (c := c) (n := 6) hl1 rfl (fun i hi => by match i, hi with | 0, _ => rfl | 1, _ => rfl | 2, _ => rfl | 3, _ => rfl | 4, _ => rfl | 5, _ => rfl) ha1 hs1 hp1
    refine ⟨_, rfl, _, rfl, fun es2 H2 hl2 ha2 hs2 => ⟨(by rw [List.length_map, hl2]; show 6 ≤ sizeLine; decide), fun q2 hq2 => ?_⟩⟩
    refine ⟨_, _, _, _, rfl, rfl, (same_new hq2) _ _ (hs2 _ _ A1.lst), upd_same, (by rw [List.length_map, List.length_map, A1.len, hl2]; show 12 ≤ sizeLine; decide), fun p2 hp2 => ?_⟩
    have A2 := acc_next A1 (m := 6) hl2 rfl (fun i hi => by match i, hi with | 0, _ => rfl | 1, _ => rfl | 2, _ => rfl | 3, _ => rfl | 4, _ => rfl | 5, _ => rfl) ha2 hs2 hq2 hp2
    refine ⟨_, rfl, _, rfl, fun es3 H3 hl3 ha3 hs3 => ⟨(by rw [List.length_map, hl3]; show 6 ≤ sizeLine; decide), fun q3 hq3 => ?_⟩⟩
    refine ⟨_, _, _, _, rfl, rfl, (same_new hq3) _ _ (hs3 _ _ A2.lst), upd_same, (by rw [List.length_map, List.length_map, A2.len, hl3]; show 18 ≤ sizeLine; decide), fun p3 hp3 => ?_⟩
    have A3 := acc_next A2 (m := 6) hl3 rfl (fun i hi => by match i, hi with | 0, _ => rfl | 1, _ => rfl | 2, _ => rfl | 3, _ => rfl | 4, _ => rfl | 5, _ => rfl) ha3 hs3 hq3 hp3
    refine ⟨_, rfl, _, rfl, fun es4 H4 hl4 ha4 hs4 => ⟨(by rw [List.length_map, hl4]; show 6 ≤ sizeLine; decide), fun q4 hq4 => ?_⟩⟩
    refine ⟨_, _, _, _, rfl, rfl, (same_new hq4) _ _ (hs4 _ _ A3.lst), upd_same, (by rw [List.length_map, List.length_map, A3.len, hl4]; show 24 ≤ sizeLine; decide), fun p4 hp4 => ?_⟩
    have A4 := acc_next A3 (m := 6) hl4 rfl (fun i hi => by match i, hi with | 0, _ => rfl | 1, _ => rfl | 2, _ => rfl | 3, _ => rfl | 4, _ => rfl | 5, _ => rfl) ha4 hs4 hq4 hp4
    refine ⟨_, rfl, _, rfl, fun es5 H5 hl5 ha5 hs5 => ⟨(by rw [List.length_map, hl5]; show 6 ≤ sizeLine; decide), fun q5 hq5 => ?_⟩⟩
    refine ⟨_, _, _, _, rfl, rfl, (same_new hq5) _ _ (hs5 _ _ A4.lst), upd_same, (by rw [List.length_map, List.length_map, A4.len, hl5]; show 30 ≤ sizeLine; decide), fun p5 hp5 => ?_⟩
    have A5 := acc_next A4 (m := 6) hl5 rfl (fun i hi => by match i, hi with | 0, _ => rfl | 1, _ => rfl | 2, _ => rfl | 3, _ => rfl | 4, _ => rfl | 5, _ => rfl) ha5 hs5 hq5 hp5
    refine ⟨_, rfl, _, rfl, fun es6 H6 hl6 ha6 hs6 => ⟨(by rw [List.length_map, hl6]; show 6 ≤ sizeLine; decide), fun q6 hq6 => ?_⟩⟩
    refine ⟨_, _, _, _, rfl, rfl, (same_new hq6) _ _ (hs6 _ _ A5.lst), upd_same, (by rw [List.length_map, List.length_map, A5.len, hl6]; show 36 ≤ sizeLine; decide), fun p6 hp6 => ?_⟩
    have A6 := acc_next A5 (m := 6) hl6 rfl (fun i hi => by match i, hi with | 0, _ => rfl | 1, _ => rfl | 2, _ => rfl | 3, _ => rfl | 4, _ => rfl | 5, _ => rfl) ha6 hs6 hq6 hp6
    refine ⟨_, rfl, _, rfl, fun es7 H7 hl7 ha7 hs7 => ⟨(by rw [List.length_map, hl7]; show 1 ≤ sizeLine; decide), fun q7 hq7 => ?_⟩⟩
    refine ⟨_, _, _, _, rfl, rfl, (same_new hq7) _ _ (hs7 _ _ A6.lst), upd_same, (by rw [List.length_map, List.length_map, A6.len, hl7]; show 37 ≤ sizeLine; decide), fun p7 hp7 => ?_⟩
    have A7 := acc_next A6 (m := 1) hl7 rfl (fun i hi => by match i, hi with | 0, _ => rfl) ha7 hs7 hq7 hp7
    exact ⟨_, rfl, kk _ _ _ A7.len A7.at_ A7.lst A7.same⟩

theorem scMarks : FnScope ["_law_error", "_law_found"] ["_law_error"] (defScope sMarks) := ⟨rfl, rfl, rfl, by decide +kernel, rfl, by decide +kernel, by decide +kernel⟩
theorem ok_marks {f : Addr} {fd : FuncData} (F : Fun K "_law_marks" "_law_marks" sMarks f fd) (T : TxtE K mg fI C0 c) : FnOk P w K mg base CX0 2 f fd ["_law_error"] (spMarks K fI c) := by
  refine F.ok scMarks (fun vs H Q E h => ?_) (fun cdv A outer s H vs Q E hr h => ?_)
  · obtain ⟨e, C, v, kb, rfl, _⟩ := h
    rfl
  · obtain ⟨e, C, v, kb, rfl, hE, hU, hkb, kk⟩ := h
    refine ⟨_, (pss_cons (ps_set (i := 1) scMarks.nd rfl (Or.inl rfl) (pe_lst (pa_is1 (by decide : 0 < 37) (pe_callB (call_isX T.ex) (by rfl) T.isi (by decide +kernel) (pa_cons (pv 0) (pa_cons (pe_glob rfl (T.gm 0 _ rfl) rfl) pa_nil))) (pa_is1 (by decide : 1 < 37) (pe_callB (call_isX T.ex) (by rfl) T.isi (by decide +kernel) (pa_cons (pv 0) (pa_cons (pe_glob rfl (T.gm 1 _ rfl) rfl) pa_nil))) (pa_is1 (by decide : 2 < 37) (pe_callB (call_isX T.ex) (by rfl) T.isi (by decide +kernel) (pa_cons (pv 0) (pa_cons (pe_glob rfl (T.gm 2 _ rfl) rfl) pa_nil))) pa_is0)))))
      (pss_cons (ps_set (i := 1) scMarks.nd rfl (Or.inl rfl) (pe_op op_cat (pv 1) (pe_lst (pa_is1 (by decide : 3 < 37) (pe_callB (call_isX T.ex) (by rfl) T.isi (by decide +kernel) (pa_cons (pv 0) (pa_cons (pe_glob rfl (T.gm 3 _ rfl) rfl) pa_nil))) (pa_is1 (by decide : 4 < 37) (pe_callB (call_isX T.ex) (by rfl) T.isi (by decide +kernel) (pa_cons (pv 0) (pa_cons (pe_glob rfl (T.gm 4 _ rfl) rfl) pa_nil))) (pa_is1 (by decide : 5 < 37) (pe_callB (call_isX T.ex) (by rfl) T.isi (by decide +kernel) (pa_cons (pv 0) (pa_cons (pe_glob rfl (T.gm 5 _ rfl) rfl) pa_nil))) pa_is0))))))
      (pss_cons (ps_set (i := 1) scMarks.nd rfl (Or.inl rfl) (pe_op op_cat (pv 1) (pe_lst (pa_is1 (by decide : 6 < 37) (pe_callB (call_isX T.ex) (by rfl) T.isi (by decide +kernel) (pa_cons (pv 0) (pa_cons (pe_glob rfl (T.gm 6 _ rfl) rfl) pa_nil))) (pa_is1 (by decide : 7 < 37) (pe_callB (call_isX T.ex) (by rfl) T.isi (by decide +kernel) (pa_cons (pv 0) (pa_cons (pe_glob rfl (T.gm 7 _ rfl) rfl) pa_nil))) (pa_is1 (by decide : 8 < 37) (pe_callB (call_isX T.ex) (by rfl) T.isi (by decide +kernel) (pa_cons (pv 0) (pa_cons (pe_glob rfl (T.gm 8 _ rfl) rfl) pa_nil))) pa_is0))))))
      (pss_cons (ps_set (i := 1) scMarks.nd rfl (Or.inl rfl) (pe_op op_cat (pv 1) (pe_lst (pa_is1 (by decide : 9 < 37) (pe_callB (call_isX T.ex) (by rfl) T.isi (by decide +kernel) (pa_cons (pv 0) (pa_cons (pe_glob rfl (T.gm 9 _ rfl) rfl) pa_nil))) (pa_is1 (by decide : 10 < 37) (pe_callB (call_isX T.ex) (by rfl) T.isi (by decide +kernel) (pa_cons (pv 0) (pa_cons (pe_glob rfl (T.gm 10 _ rfl) rfl) pa_nil))) (pa_is1 (by decide : 11 < 37) (pe_callB (call_isX T.ex) (by rfl) T.isi (by decide +kernel) (pa_cons (pv 0) (pa_cons (pe_glob rfl (T.gm 11 _ rfl) rfl) pa_nil))) pa_is0))))))
      (pss_cons (ps_set (i := 1) scMarks.nd rfl (Or.inl rfl) (pe_op op_cat (pv 1) (pe_lst (pa_is1 (by decide : 12 < 37) (pe_callB (call_isX T.ex) (by rfl) T.isi (by decide +kernel) (pa_cons (pv 0) (pa_cons (pe_glob rfl (T.gm 12 _ rfl) rfl) pa_nil))) (pa_is1 (by decide : 13 < 37) (pe_callB (call_isX T.ex) (by rfl) T.isi (by decide +kernel) (pa_cons (pv 0) (pa_cons (pe_glob rfl (T.gm 13 _ rfl) rfl) pa_nil))) (pa_is1 (by decide : 14 < 37) (pe_callB (call_isX T.ex) (by rfl) T.isi (by decide +kernel) (pa_cons (pv 0) (pa_cons (pe_glob rfl (T.gm 14 _ rfl) rfl) pa_nil))) pa_is0))))))
      (pss_cons (ps_set (i := 1) scMarks.nd rfl (Or.inl rfl) (pe_op op_cat (pv 1) (pe_lst (pa_is1 (by decide : 15 < 37) (pe_callB (call_isX T.ex) (by rfl) T.isi (by decide +kernel) (pa_cons (pv 0) (pa_cons (pe_glob rfl (T.gm 15 _ rfl) rfl) pa_nil))) (pa_is1 (by decide : 16 < 37) (pe_callB (call_isX T.ex) (by rfl) T.isi (by decide +kernel) (pa_cons (pv 0) (pa_cons (pe_glob rfl (T.gm 16 _ rfl) rfl) pa_nil))) (pa_is1 (by decide : 17 < 37) (pe_callB (call_isX T.ex) (by rfl) T.isi (by decide +kernel) (pa_cons (pv 0) (pa_cons (pe_glob rfl (T.gm 17 _ rfl) rfl) pa_nil))) pa_is0))))))
      (pss_cons (ps_set (i := 1) scMarks.nd rfl (Or.inl rfl) (pe_op op_cat (pv 1) (pe_lst (pa_is1 (by decide : 18 < 37) (pe_callB (call_isX T.ex) (by rfl) T.isi (by decide +kernel) (pa_cons (pv 0) (pa_cons (pe_glob rfl (T.gm 18 _ rfl) rfl) pa_nil))) (pa_is1 (by decide : 19 < 37) (pe_callB (call_isX T.ex) (by rfl) T.isi (by decide +kernel) (pa_cons (pv 0) (pa_cons (pe_glob rfl (T.gm 19 _ rfl) rfl) pa_nil))) (pa_is1 (by decide : 20 < 37) (pe_callB (call_isX T.ex) (by rfl) T.isi (by decide +kernel) (pa_cons (pv 0) (pa_cons (pe_glob rfl (T.gm 20 _ rfl) rfl) pa_nil))) pa_is0))))))
      (pss_cons (ps_set (i := 1) scMarks.nd rfl (Or.inl rfl) (pe_op op_cat (pv 1) (pe_lst (pa_is1 (by decide : 21 < 37) (pe_callB (call_isX T.ex) (by rfl) T.isi (by decide +kernel) (pa_cons (pv 0) (pa_cons (pe_glob rfl (T.gm 21 _ rfl) rfl) pa_nil))) (pa_is1 (by decide : 22 < 37) (pe_callB (call_isX T.ex) (by rfl) T.isi (by decide +kernel) (pa_cons (pv 0) (pa_cons (pe_glob rfl (T.gm 22 _ rfl) rfl) pa_nil))) (pa_is1 (by decide : 23 < 37) (pe_callB (call_isX T.ex) (by rfl) T.isi (by decide +kernel) (pa_cons (pv 0) (pa_cons (pe_glob rfl (T.gm 23 _ rfl) rfl) pa_nil))) pa_is0))))))
      (pss_cons (ps_set (i := 1) scMarks.nd rfl (Or.inl rfl) (pe_op op_cat (pv 1) (pe_lst (pa_is1 (by decide : 24 < 37) (pe_callB (call_isX T.ex) (by rfl) T.isi (by decide +kernel) (pa_cons (pv 0) (pa_cons (pe_glob rfl (T.gm 24 _ rfl) rfl) pa_nil))) (pa_is1 (by decide : 25 < 37) (pe_callB (call_isX T.ex) (by rfl) T.isi (by decide +kernel) (pa_cons (pv 0) (pa_cons (pe_glob rfl (T.gm 25 _ rfl) rfl) pa_nil))) (pa_is1 (by decide : 26 < 37) (pe_callB (call_isX T.ex) (by rfl) T.isi (by decide +kernel) (pa_cons (pv 0) (pa_cons (pe_glob rfl (T.gm 26 _ rfl) rfl) pa_nil))) pa_is0))))))
      (pss_cons (ps_set (i := 1) scMarks.nd rfl (Or.inl rfl) (pe_op op_cat (pv 1) (pe_lst (pa_is1 (by decide : 27 < 37) (pe_callB (call_isX T.ex) (by rfl) T.isi (by decide +kernel) (pa_cons (pv 0) (pa_cons (pe_glob rfl (T.gm 27 _ rfl) rfl) pa_nil))) (pa_is1 (by decide : 28 < 37) (pe_callB (call_isX T.ex) (by rfl) T.isi (by decide +kernel) (pa_cons (pv 0) (pa_cons (pe_glob rfl (T.gm 28 _ rfl) rfl) pa_nil))) (pa_is1 (by decide : 29 < 37) (pe_callB (call_isX T.ex) (by rfl) T.isi (by decide +kernel) (pa_cons (pv 0) (pa_cons (pe_glob rfl (T.gm 29 _ rfl) rfl) pa_nil))) pa_is0))))))
      (pss_cons (ps_set (i := 1) scMarks.nd rfl (Or.inl rfl) (pe_op op_cat (pv 1) (pe_lst (pa_is1 (by decide : 30 < 37) (pe_callB (call_isX T.ex) (by rfl) T.isi (by decide +kernel) (pa_cons (pv 0) (pa_cons (pe_glob rfl (T.gm 30 _ rfl) rfl) pa_nil))) (pa_is1 (by decide : 31 < 37) (pe_callB (call_isX T.ex) (by rfl) T.isi (by decide +kernel) (pa_cons (pv 0) (pa_cons (pe_glob rfl (T.gm 31 _ rfl) rfl) pa_nil))) (pa_is1 (by decide : 32 < 37) (pe_callB (call_isX T.ex) (by rfl) T.isi (by decide +kernel) (pa_cons (pv 0) (pa_cons (pe_glob rfl (T.gm 32 _ rfl) rfl) pa_nil))) pa_is0))))))
      (pss_cons (ps_set (i := 1) scMarks.nd rfl (Or.inl rfl) (pe_op op_cat (pv 1) (pe_lst (pa_is1 (by decide : 33 < 37) (pe_callB (call_isX T.ex) (by rfl) T.isi (by decide +kernel) (pa_cons (pv 0) (pa_cons (pe_glob rfl (T.gm 33 _ rfl) rfl) pa_nil))) (pa_is1 (by decide : 34 < 37) (pe_callB (call_isX T.ex) (by rfl) T.isi (by decide +kernel) (pa_cons (pv 0) (pa_cons (pe_glob rfl (T.gm 34 _ rfl) rfl) pa_nil))) (pa_is1 (by decide : 35 < 37) (pe_callB (call_isX T.ex) (by rfl) T.isi (by decide +kernel) (pa_cons (pv 0) (pa_cons (pe_glob rfl (T.gm 35 _ rfl) rfl) pa_nil))) pa_is0))))))
      (pss_cons (ps_set (i := 1) scMarks.nd rfl (Or.inl rfl) (pe_op op_cat (pv 1) (pe_lst (pa_is1 (by decide : 36 < 37) (pe_callB (call_isX T.ex) (by rfl) T.isi (by decide +kernel) (pa_cons (pv 0) (pa_cons (pe_glob rfl (T.gm 36 _ rfl) rfl) pa_nil))) pa_is0))))
      (pss_one (ps_ret (pv 1)))))))))))))))), ?_⟩
    refine ⟨_, _, _, _, rfl, hE, hU, hkb, ⟨(by show 3 ≤ sizeLine; decide), fun p1 hp1 => ?_⟩⟩
    have A1 := bacc_first (kb := kb) (js := [0, 1, 2]) (H0 := H) rfl hp1
    refine ⟨_, rfl, _, _, _, _, rfl, hE.same A1.same, hU, hkb, ⟨(by show 3 ≤ sizeLine; decide), fun q2 hq2 => ?_⟩⟩
    refine ⟨_, _, _, _, rfl, rfl, (same_new hq2) _ _ A1.lst, upd_same, (by show 6 ≤ sizeLine; decide), fun p2 hp2 => ?_⟩
    have A2 := bacc_next A1 (js2 := [3, 4, 5]) rfl hq2 hp2
    refine ⟨_, rfl, _, _, _, _, rfl, hE.same A2.same, hU, hkb, ⟨(by show 3 ≤ sizeLine; decide), fun q3 hq3 => ?_⟩⟩
    refine ⟨_, _, _, _, rfl, rfl, (same_new hq3) _ _ A2.lst, upd_same, (by show 9 ≤ sizeLine; decide), fun p3 hp3 => ?_⟩
    have A3 := bacc_next A2 (js2 := [6, 7, 8]) rfl hq3 hp3
    refine ⟨_, rfl, _, _, _, _, rfl, hE.same A3.same, hU, hkb, ⟨(by show 3 ≤ sizeLine; decide), fun q4 hq4 => ?_⟩⟩
    refine ⟨_, _, _, _, rfl, rfl, (same_new hq4) _ _ A3.lst, upd_same, (by show 12 ≤ sizeLine; decide), fun p4 hp4 => ?_⟩
    have A4 := bacc_next A3 (js2 := [9, 10, 11]) rfl hq4 hp4
    refine ⟨_, rfl, _, _, _, _, rfl, hE.same A4.same, hU, hkb, ⟨(by show 3 ≤ sizeLine; decide), fun q5 hq5 => ?_⟩⟩
    refine ⟨_, _, _, _, rfl, rfl, (same_new hq5) _ _ A4.lst, upd_same, (by show 15 ≤ sizeLine; decide), fun p5 hp5 => ?_⟩
    have A5 := bacc_next A4 (js2 := [12, 13, 14]) rfl hq5 hp5
    refine ⟨_, rfl, _, _, _, _, rfl, hE.same A5.same, hU, hkb, ⟨(by show 3 ≤ sizeLine; decide), fun q6 hq6 => ?_⟩⟩
    refine ⟨_, _, _, _, rfl, rfl, (same_new hq6) _ _ A5.lst, upd_same, (by show 18 ≤ sizeLine; decide), fun p6 hp6 => ?_⟩
    have A6 := bacc_next A5 (js2 := [15, 16, 17]) rfl hq6 hp6
    refine ⟨_, rfl, _, _, _, _, rfl, hE.same A6.same, hU, hkb, ⟨(by show 3 ≤ sizeLine; decide), fun q7 hq7 => ?_⟩⟩
    refine ⟨_, _, _, _, rfl, rfl, (same_new hq7) _ _ A6.lst, upd_same, (by show 21 ≤ sizeLine; decide), fun p7 hp7 => ?_⟩
    have A7 := bacc_next A6 (js2 := [18, 19, 20]) rfl hq7 hp7
    refine ⟨_, rfl, _, _, _, _, rfl, hE.same A7.same, hU, hkb, ⟨(by show 3 ≤ sizeLine; decide), fun q8 hq8 => ?_⟩⟩
    refine ⟨_, _, _, _, rfl, rfl, (same_new hq8) _ _ A7.lst, upd_same, (by show 24 ≤ sizeLine; decide), fun p8 hp8 => ?_⟩
    have A8 := bacc_next A7 (js2 := [21, 22, 23]) rfl hq8 hp8
    refine ⟨_, rfl, _, _, _, _, rfl, hE.same A8.same, hU, hkb, ⟨(by show 3 ≤ sizeLine; decide), fun q9 hq9 => ?_⟩⟩
    refine ⟨_, _, _, _, rfl, rfl, (same_new hq9) _ _ A8.lst, upd_same, (by show 27 ≤ sizeLine; decide), fun p9 hp9 => ?_⟩
    have A9 := bacc_next A8 (js2 := [24, 25, 26]) rfl hq9 hp9
    refine ⟨_, rfl, _, _, _, _, rfl, hE.same A9.same, hU, hkb, ⟨(by show 3 ≤ sizeLine; decide), fun q10 hq10 => ?_⟩⟩
    refine ⟨_, _, _, _, rfl, rfl, (same_new hq10) _ _ A9.lst, upd_same, (by show 30 ≤ sizeLine; decide), fun p10 hp10 => ?_⟩
    have A10 := bacc_next A9 (js2 := [27, 28, 29]) rfl hq10 hp10
    refine ⟨_, rfl, _, _, _, _, rfl, hE.same A10.same, hU, hkb, ⟨(by show 3 ≤ sizeLine; decide), fun q11 hq11 => ?_⟩⟩
    refine ⟨_, _, _, _, rfl, rfl, (same_new hq11) _ _ A10.lst, upd_same, (by show 33 ≤ sizeLine; decide), fun p11 hp11 => ?_⟩
    have A11 := bacc_next A10 (js2 := [30, 31, 32]) rfl hq11 hp11
    refine ⟨_, rfl, _, _, _, _, rfl, hE.same A11.same, hU, hkb, ⟨(by show 3 ≤ sizeLine; decide), fun q12 hq12 => ?_⟩⟩
    refine ⟨_, _, _, _, rfl, rfl, (same_new hq12) _ _ A11.lst, upd_same, (by show 36 ≤ sizeLine; decide), fun p12 hp12 => ?_⟩
    have A12 := bacc_next A11 (js2 := [33, 34, 35]) rfl hq12 hp12
    refine ⟨_, rfl, _, _, _, _, rfl, hE.same A12.same, hU, hkb, ⟨(by show 1 ≤ sizeLine; decide), fun q13 hq13 => ?_⟩⟩
    refine ⟨_, _, _, _, rfl, rfl, (same_new hq13) _ _ A12.lst, upd_same, (by show 37 ≤ sizeLine; decide), fun p13 hp13 => ?_⟩
    have A13 := bacc_next A12 (js2 := [36]) rfl hq13 hp13
    exact ⟨_, rfl, kk _ _ A13.lst A13.same⟩

end
end Kzero
end

section
set_option Elab.async false
set_option linter.all false
set_option maxRecDepth 100000
set_option maxHeartbeats 4000000
namespace Kzero
open PySem PySem.Spec PyProof.Rows L2
def spCaught : Sp := fun vs H Q _ => ∃ v, vs = [v] ∧ ∀ (H' : Hp) (p : Addr), H p = none → H' p = some (.lst [v, v]) → Same H H' → Q (.ref p) H'
/-- what a clause that keeps its error in slot 3 wishes -/
def wK (ts : TS) (C : Addr) : Addr → Addr → Ends → L2.St → Hp → Prop := fun e d D σ H =>
  ts { nx := fun σ' H' => D.nx (σ'.set 3 none) (upd H' e (exE e C d)), rt := fun _ _ => False, bk := fun _ _ => False, ct := fun _ _ => False } (σ.set 3 (some (.ref e))) H
abbrev nmC : List Str := ["_law_value_here", "_law_first", "_law_second", "_law_error"]
section
variable {P : Program} {w : World} {K : PySem.W.Frag} {mg : Str → Option Value} {base : Heap} {fI C0 : Addr} {c : Nat → Addr}
theorem scCaught : FnScope nmC ["_law_value_here"] (defScope sCaught) := ⟨rfl, rfl, rfl, by decide +kernel, rfl, by decide +kernel, by decide +kernel⟩
theorem ok_caught {f : Addr} {fd : FuncData} (F : Fun K "_law_caught" "_law_caught" sCaught f fd) (T : TxtE K mg fI C0 c) : FnOk P w K mg base CX0 2 f fd ["_law_value_here"] spCaught := by
  refine F.ok scCaught (fun vs H Q E h => ?_) (fun cdv A outer s H vs Q E hr h => ?_)
  · obtain ⟨v, rfl, _⟩ := h
    rfl
  · obtain ⟨v, rfl, kk⟩ := h
    refine ⟨_, pss_cons (ps_asg (pe_tup (pa_cons pe_non (pa_cons pe_non pa_nil))) (pg_tup (by rfl) (pgs_cons (pg_name (i := 1) scCaught.nd rfl (Or.inl rfl)) (pgs_cons (pg_name (i := 2) scCaught.nd rfl (Or.inl rfl)) pgs_nil))))
      (pss_cons (ps_try_raise (C := c 18) (wd := wK (tAsg (tVar 3) (gName 1)) (c 18)) rfl rfl rfl T.ex (T.cl 18 (by decide)) hr rfl (T.gm 18 _ rfl) (fun _ _ => pa_cons (pv 0) pa_nil)
        (fun pins D σ H sI s B e d W h => W.keep (i := 3) (ts := tAsg (tVar 3) (gName 1)) rfl rfl rfl ⟨rfl, by decide, .inl T.g0⟩ T.e1 scCaught.nd rfl rfl (fun oe pn hz hf => pss_one (ps_set (i := 1) scCaught.nd rfl (Or.inl rfl) (pv 3))) h))
      (pss_cons (ps_try_raise (C := c 31) (wd := wK (tAsg (tVar 3) (gName 2)) (c 31)) rfl rfl rfl T.ex (T.cl 31 (by decide)) hr rfl (T.gm 31 _ rfl) (fun _ _ => pa_cons (pv 0) pa_nil)
        (fun pins D σ H sI s B e d W h => W.skip rfl rfl rfl ⟨rfl, by decide, .inl (T.gm 36 _ rfl)⟩ T.e2
          (W.keep (i := 3) (ts := tAsg (tVar 3) (gName 2)) rfl rfl rfl ⟨rfl, by decide, .inl (T.gm 31 _ rfl)⟩ T.e3 scCaught.nd rfl rfl (fun oe pn hz hf => pss_one (ps_set (i := 2) scCaught.nd rfl (Or.inl rfl) (pv 3))) h)))
      (pss_one (ps_ret (pe_ifExp (PW.pt (pw_or (pt_cmpR op_isN (pv 1) pe_non (nomark _)) (pw_or1 (pt_cmpR op_isN (pv 2) pe_non (nomark _))))) pe_non
        (pe_lst (pa_cons (pe_value (T.cl 18 (by decide)) (pv 1)) (pa_cons (pe_value (T.cl 31 (by decide)) (pv 2)) pa_nil)))))))), ?_⟩
    have s1 : ∀ {H1 : Hp} {d e C : Addr}, H1 d = none → upd H1 d (valD v) e = none → Same H1 (upd (upd H1 d (valD v)) e (exE e C d)) := fun hd he => (same_new hd).trans (same_new he)
    refine ⟨(by show 2 ≤ sizeLine; decide), fun t ht => ?_⟩
    refine ⟨t, _, rfl, SqT.of upd_same, rfl, ?_⟩
    refine ⟨_, _, rfl, _, _, rfl, rfl, ?_⟩
    have s0 : Same H (upd H t (.tup [V.non, V.non])) := same_new ht
    generalize upd H t (.tup [V.non, V.non]) = H0 at s0
    refine ⟨_, rfl, v, rfl, fun d1 hd1 => ⟨d1, rfl, rfl, fun e1 he1 => ⟨_, rfl, ?_⟩⟩⟩
    have n1 : d1 ≠ e1 := fun z => by
      rw [z, upd_same] at he1
      cases he1
    have x1 : ExAt (upd (upd H0 d1 (valD v)) e1 (exE e1 (c 18) d1)) e1 (c 18) v := ⟨d1, upd_same, by rw [upd_ne n1]; exact upd_same⟩
    have s2 : Same H0 (upd (upd H0 d1 (valD v)) e1 (exE e1 (c 18) d1)) := s1 hd1 he1
    refine ⟨_, rfl, v, rfl, fun d2 hd2 => ⟨d2, rfl, rfl, fun e2 he2 => ⟨_, rfl, ?_⟩⟩⟩
    have n2 : d2 ≠ e2 := fun z => by
      rw [z, upd_same] at he2
      cases he2
    have x2 : ExAt (upd (upd (upd (upd H0 d1 (valD v)) e1 (exE e1 (c 18) d1)) d2 (valD v)) e2 (exE e2 (c 31) d2)) e2 (c 31) v := ⟨d2, upd_same, by rw [upd_ne n2]; exact upd_same⟩
    have s3 := s1 (C := c 31) hd2 he2
    refine ⟨_, rfl, rfl, _, rfl, ite2 (fun h => absurd (of_decide_eq_true h) (fun z => nomatch z)) (fun _ => ?_)⟩
    refine ⟨_, rfl, rfl, _, rfl, ite2 (fun h => absurd (of_decide_eq_true h) (fun z => nomatch z)) (fun _ => ?_)⟩
    refine ⟨_, rfl, e1, v, rfl, x1.same s3, _, rfl, e2, v, rfl, x2, (by show 2 ≤ sizeLine; decide), fun p hp => ?_⟩
    have sa := (s0.trans s2).trans s3
    exact kk _ p (sa.free hp) upd_same (sa.trans (same_new hp))
end
end Kzero
end

section
set_option Elab.async false
set_option linter.all false
set_option maxRecDepth 100000
set_option maxHeartbeats 4000000
namespace Kzero
open PySem PySem.Spec PyProof.Rows L2
abbrev Any : Addr → Prop := fun _ => True
theorem Tr.same {H H' : Hp} {v : V} {d : PyData} (t : Tr Any H v d) (k : Same H H') : Tr Any H' v d := Tr.move (fun _ h => h) (fun a o _ e => k a o e) d v t
/-- e.value, whatever the class -/
def tValA (K : PySem.W.Frag) (fI : Addr) (te : TE) : TE := fun σ H Q => te σ H fun x H1 => ∃ (e C : Addr) (v : V), x = .ref e ∧ Kexc.ExCl K C fI ∧ ExAt H1 e C v ∧ Q v H1
section
variable {X : Cx} {fI : Addr}
theorem pe_valueA {e : Expr} {te : TE} {pos : Pos} (he : PE X e te) (hb : attributeBase e "value" X.env (eval e X.env) = eval e X.env := by rfl) : PE X (.Attribute e "value" pos) (tValA X.K fI te) := by
  refine ⟨fun pins s σ H Q I h => ?_⟩
  refine attr_of hb (thn (he.run pins s σ H _ I h) fun u s1 hh => ?_)
  obtain ⟨x, H1, I1, rx, a, C, v, ex, U, ⟨d, g1, g2⟩, q⟩ := hh
  subst ex
  obtain rfl : u = Value.ref a := rx
  obtain ⟨⟨oe, vs, ho, hc, hd, hdat⟩, _, _⟩ : (∃ (oe : Obj) (vs : Array Value), s1.heap.get? a = some oe ∧ oe.cls = .ref C ∧ oe.dict = some d ∧ oe.data = .fields vs) ∧ (∃ o, s1.heap.get? a = some o) ∧ _ := I1.hok a _ g1
  obtain ⟨mA, hns, hr⟩ : ∃ mA, s1.heap.Ns1 d mA ∧ ∀ f, RelO (List.lookup f [(("value" : Str), v)]) (mA f) := I1.hok d _ g2
  obtain ⟨od, hod, hl⟩ := lookIn_ns hns
  have l : List.lookup ("value" : Str) [(("value" : Str), v)] = some v := by simp [List.lookup]
  obtain ⟨u, hu, ru⟩ := RelO.some_of (v := v) (o := mA "value") (by rw [← l]; exact hr "value")
  have J : PySem.W.InstAt s1.heap a oe C (some od) := ⟨ho, hc, by unfold PySem.W.notCls; rw [hdat] <;> rfl, by rw [hd]; exact hod⟩
  exact HandSPX.exc_get I1.kIn J U.ga U.gg U.exC (PySem.W.findObj_own U.hdC U.noV rfl (by rw [hl, hu])) (handed_of ru) ⟨v, H1, I1.tok _, ru, q⟩
end
/-! ### the texts fit -/
theorem shown_fits {d : PyData} {b k : Nat} (f : Fits d b k) (hb : b ≤ 10000) : d.shown.length ≤ sizeLine := by
  have h := PyData.shown_le_bulk 16 (by decide) d f.lf
  have h2 := f.bu
  rw [sizeLine_eq]
  omega
theorem two_fit {d : PyData} {b k : Nat} (f : Fits d b k) : Fits (.list [d, d]) (2 * (b + 1)) (k + 1) := by
  obtain ⟨h1, h2, h3, h4⟩ := fits_all (ds := [d, d]) (b := b) (k := k) fun x hx => by
    simp at hx
    rw [hx]
    exact f
  have h3' : PyData.bulkAll [d, d] ≤ 2 * (b + 1) := h3
  exact ⟨by simpa only [PyData.showable] using h1, by simpa only [PyData.leavesShort] using h2, by simpa only [PyData.bulk] using h3', by simp only [PyData.depth]; omega⟩
/-! ### the marks as data -/
def markD (i : Nat) : PyData := .list ((List.range 37).map fun j => .bool (decide (i = j)))
theorem mark_ok : ∀ i, i < 37 → PyData.eqv (markD i) (markD i) = true ∧ SeqAt.shaped (markD i) = true := by decide +kernel
theorem dp_bools {K : PySem.W.Frag} {H : Hp} : ∀ bs : List Bool, DpAll K H (bs.map V.bl) (bs.map PyData.bool)
  | [] => .nil
  | b :: bs => .cons (.bl b) (dp_bools bs)
theorem dp_marks {K : PySem.W.Frag} {H : Hp} {p : Addr} {i : Nat} (h : H p = some (.lst ((List.range 37).map fun j => V.bl (decide (i = j))))) : Dp K H (.ref p) (markD i) := by
  have e1 : ((List.range 37).map fun j => V.bl (decide (i = j))) = ((List.range 37).map fun j => decide (i = j)).map V.bl := by rw [List.map_map]; rfl
  have e2 : ((List.range 37).map fun j => PyData.bool (decide (i = j))) = ((List.range 37).map fun j => decide (i = j)).map PyData.bool := by rw [List.map_map]; rfl
  unfold markD
  rw [e2]
  rw [e1] at h
  exact .lst (SqL.of h) (dp_bools _)
def spRight : Sp := fun vs H Q _ => ∃ (v : V) (d : PyData), vs = [v] ∧ Tr Any H v d ∧ Fits d 1000 10 ∧ ∀ H' : Hp, Same H H' → Q (.bl true) H'
abbrev nmR : List Str := ["_law_value_here", "_law_made_here", "_law_at", "_law_error", "_law_plain", "_law_place"]
structure TxtR (K : PySem.W.Frag) (mg : Str → Option Value) (fM fK fC : Addr) : Prop where
  gM : mg "_law_made" = some (.ref fM)
  kM : PySem.W.keepIn K (.ref fM) = true
  gK : mg "_law_marks" = some (.ref fK)
  kK : PySem.W.keepIn K (.ref fK) = true
  gC : mg "_law_caught" = some (.ref fC)
  kC : PySem.W.keepIn K (.ref fC) = true
theorem dec_at (i k : Nat) : decide (V.int (0 + (k : Int)) = V.int (i : Int)) = decide (i = k) := by
  by_cases h : i = k
  · subst h
    rw [decide_eq_true rfl, decide_eq_true (by rw [Int.zero_add])]
  · rw [decide_eq_false h, decide_eq_false]
    intro e
    have z : (0 + (k : Int)) = (i : Int) := V.int.inj e
    omega
section
variable {P : Program} {w : World} {K : PySem.W.Frag} {mg : Str → Option Value} {base : Heap} {fI C0 : Addr} {c : Nat → Addr}
theorem scRight : FnScope nmR ["_law_value_here"] (defScope sRight) := ⟨rfl, rfl, rfl, by decide +kernel, rfl, by decide +kernel, by decide +kernel⟩
theorem ok_right {f fM fK fC : Addr} {fd fdM fdK fdC : FuncData} (F : Fun K "_law_right" "_law_right" sRight f fd) (T : TxtE K mg fI C0 c) (U : TxtR K mg fM fK fC)
    (GM : FnOk P w K mg base CX0 2 fM fdM ["_law_one"] (spMade c)) (bM : Binds K fdM ["_law_one"] []) (GK : FnOk P w K mg base CX0 2 fK fdK ["_law_error"] (spMarks K fI c)) (bK : Binds K fdK ["_law_error"] [])
    (GC : FnOk P w K mg base CX0 2 fC fdC ["_law_value_here"] spCaught) (bC : Binds K fdC ["_law_value_here"] []) (hs : ∃ o, base.get? sysModules = some o) : FnOkG P w K mg base 4 f fd ["_law_value_here"] spRight := by
  refine okG F scRight (fun vs H Q E h => ?_) (fun cdv A outer s H vs Q E hG hr h => ?_)
  · obtain ⟨v, d, rfl, _⟩ := h
    rfl
  · obtain ⟨v, d, rfl, ht, hf, kk⟩ := h
    have hr2 : Room 2 _ := hr.mono (by decide)
    have hu : (A.deeper (envOfC "_law_right" (defScope sRight) s.heap.objs.size f cdv)).units + 200 < cLine := by have := hr.un; omega
    have hu64 : (A.deeper (envOfC "_law_right" (defScope sRight) s.heap.objs.size f cdv)).units + 64 < cLine := by omega
    refine ⟨_, pss_cons (ps_set (i := 1) scRight.nd rfl (Or.inl rfl) (pe_call GM hr2 rfl U.gM U.kM bM .nil pass0 (pa_cons (pv 0) pa_nil)))
      (pss_cons (ps_for PassesOwn.never rfl (pi_enum (by rfl) T.enu (pa_cons (pv 1) pa_nil)) (pg_tup rfl (pgs_cons (pg_name (i := 2) scRight.nd rfl (Or.inr rfl)) (pgs_cons (pg_name (i := 3) scRight.nd rfl (Or.inl rfl)) pgs_nil)))
        (pss_cons (ps_if (PW.pt (pw_or (pt_not (pt_val (pe_callB (call_isX T.ex) (by rfl) T.isi (by decide +kernel) (pa_cons (pv 3) (pa_cons (pe_glob (v := .ref C0) rfl T.g0 rfl) pa_nil)))))
            (pw_or1 (pt_not (pt_val (pe_callB (call_isX T.ex) (by rfl) T.isi (by decide +kernel) (pa_cons (pv 3) (pa_cons (pe_bltn (v := .ty "ValueError") (by rfl) T.ve (by decide +kernel) rfl) pa_nil)))))))) (pss_one (ps_ret pe_bl)) pss_nil)
        (pss_cons (ps_if (pt_cmpR op_ne (pe_callB (call_reprD (N := Any) hG hu hs) (by rfl) T.rep (by decide +kernel) (pa_cons (pe_valueA (fI := fI) (pv 3)) pa_nil)) (pe_callB (call_reprD (N := Any) hG hu hs) (by rfl) T.rep (by decide +kernel) (pa_cons (pv 0) pa_nil)) (nomark _)) (pss_one (ps_ret pe_bl)) pss_nil)
        (pss_one (ps_if (pt_cmpR (op_neD hu64) (pe_call GK hr2 rfl U.gK U.kK bK .nil pass0 (pa_cons (pv 3) pa_nil))
            (pe_lc (own := [("_law_place", 5)]) (g := gName 5) (tt := tYes) rfl scRight.nd (pi_range1 rfl T.rng (pa_cons (pe_callB call_len_seq (by rfl) T.len PySem.boot_len (pa_cons (pv 1) pa_nil)) pa_nil)) (blkOk_by (N := nmR) (sc := defScope sRight) (by decide +kernel))
              (fun _ _ _ _ _ => pg_name (i := 5) scRight.nd rfl (Or.inl rfl)) (fun _ _ _ _ _ => pts_nil) (fun _ _ _ _ _ => pe_cmpR op_eq (pv 5) (pv 2) (nomark _))) (nomark _)) (pss_one (ps_ret pe_bl)) pss_nil)))))
      (pss_cons (ps_set (i := 4) scRight.nd rfl (Or.inl rfl) (pe_mkE T.ex T.u0 hr rfl T.g0 (pa_cons (pv 0) pa_nil)))
      (pss_cons (ps_if (PW.pt (pw_or (pt_val (pe_callB (cr_any rfl) (by rfl) T.any (by decide +kernel) (pa_cons (pe_call GK hr2 rfl U.gK U.kK bK .nil pass0 (pa_cons (pv 4) pa_nil)) pa_nil)))
          (pw_or (pt_cmpR op_ne (pe_callB (call_reprD (N := Any) hG hu hs) (by rfl) T.rep (by decide +kernel) (pa_cons (pe_valueA (fI := fI) (pv 4)) pa_nil)) (pe_callB (call_reprD (N := Any) hG hu hs) (by rfl) T.rep (by decide +kernel) (pa_cons (pv 0) pa_nil)) (nomark _))
          (pw_or1 (pt_not (pt_val (pe_callB (call_isX T.ex) (by rfl) T.isi (by decide +kernel) (pa_cons (pv 4) (pa_cons (pe_bltn (v := .ty "ValueError") (by rfl) T.ve (by decide +kernel) rfl) pa_nil))))))))) (pss_one (ps_ret pe_bl)) pss_nil)
      (pss_one (ps_ret (pe_cmpR op_eq (pe_callB (call_reprD (N := Any) hG hu hs) (by rfl) T.rep (by decide +kernel) (pa_cons (pe_call GC hr2 rfl U.gC U.kC bC .nil pass0 (pa_cons (pv 0) pa_nil)) pa_nil))
          (pe_callB (call_reprD (N := Any) hG hu hs) (by rfl) T.rep (by decide +kernel) (pa_cons (pe_lst (pa_cons (pv 0) (pa_cons (pv 0) pa_nil))) pa_nil)) (nomark _))))))), ?_⟩
    have hsz := shown_fits hf (by decide)
    have hdp : d.depth ≤ 100 := Nat.le_trans hf.dp (by decide)
    refine ⟨_, rfl, v, rfl, fun es H1 p1 hl he hp1 s1 => ?_⟩
    refine ⟨_, rfl, p1, es.map V.ref, rfl, SqL.of hp1, for_it walk_enum (fun i σ H' => ∃ a2 a3 : Option V, σ = [some v, some (.ref p1), a2, a3, none, none] ∧ Same H1 H') ⟨none, none, rfl, fun _ _ e => e⟩
      (fun i σ H' _ ⟨_, _, _, sm⟩ => SqL.of (sm _ _ hp1)) ?_ ?_⟩
    · rintro i x σ H2 H3 hi ⟨a2, a3, rfl, s2⟩ ⟨Tp, x1, y1, rfl, hT, rfl, ex, ey⟩
      obtain rfl : V.int (i : Nat) = x1 := Option.some.inj ex
      have hi37 : i < 37 := by
        rw [List.length_map, hl] at hi
        exact hi
      obtain ⟨e, he1, rfl⟩ : ∃ e, es[i]? = some e ∧ y1 = V.ref e := by
        have ey : (es.map V.ref)[i]? = some y1 := ey
        rw [List.getElem?_map] at ey
        cases z : es[i]? with
        | none =>
          rw [z] at ey
          cases ey
        | some e =>
          rw [z] at ey
          exact ⟨e, rfl, (Option.some.inj ey).symm⟩
      have s3 : Same H1 (upd H2 Tp (.tup [V.int (i : Nat), V.ref e])) := s2.trans (same_new hT)
      have s03 := s1.trans s3
      have hE := (he i e he1).same s3
      obtain ⟨dd, g1, g2⟩ := id hE
      refine ⟨Tp, _, rfl, SqT.of upd_same, rfl, ?_⟩
      refine ⟨_, _, rfl, _, _, rfl, rfl, ?_⟩
      refine ⟨_, rfl, e, c i, dd, _, _, _, rfl, g1, ⟨v, g2⟩, T.cl i hi37, fun u r => r, T.kit0 i hi37, _, rfl, ?_⟩
      refine ⟨_, rfl, e, c i, dd, _, _, _, rfl, g1, ⟨v, g2⟩, T.cl i hi37, fun u r => r, T.kitV i hi37, _, rfl, ?_⟩
      -- the two texts
      refine ⟨_, rfl, e, c i, v, rfl, T.cl i hi37, hE, v, d, rfl, ht.same s03, hf.sh, hsz, hdp, ?_⟩
      refine ⟨_, rfl, v, d, rfl, ht.same s03, hf.sh, hsz, hdp, rfl, _, rfl, iteNS rfl ?_⟩
      -- the marks
      refine ⟨_, rfl, e, c i, v, fun j => decide (i = j), rfl, hE, T.cl i hi37, fun j hj => T.kit i j hi37 hj, fun H4 p4 hp4 s4 => ?_⟩
      refine ⟨_, rfl, p1, _, rfl, Or.inl (SqL.of (s4 _ _ (s3 _ _ hp1))), _, rfl, (by rw [List.length_map, hl]; decide), (by rw [List.length_map, hl]; decide), fun D hD => ?_⟩
      refine lc_range (lo := 0) (n := _) (fun k H' => H' D = some (.lst ((List.range k).map fun j => V.bl (decide (i = j)))) ∧ Same H4 H') ⟨upd_same, same_new hD⟩ ?_ ?_
      · rintro k H' hk ⟨hDk, sk⟩
        have hk37 : k < 37 := by
          rw [List.length_map, hl] at hk
          exact hk
        have big : (1000 : Nat) < sizeLine := by decide
        refine ⟨rfl, _, rfl, _, rfl, rfl, _, hDk, (by rw [List.length_map, List.length_range]; omega), ?_, ?_⟩
        · rw [upd_same, List.range_succ, List.map_append, dec_at]
          rfl
        · exact fun b o q => by
            rw [upd_ne (ne_of_none q hD)]
            exact sk b o q
      · rintro H' ⟨hDn, sn⟩
        rw [List.length_map, hl] at hDn
        obtain ⟨m1, m2⟩ := mark_ok i hi37
        refine ⟨markD i, markD i, dp_marks (sn _ _ hp4), dp_marks hDn, m2, m2, _, rfl, ite2 (fun h => absurd h (by rw [m1]; decide)) (fun _ => ?_)⟩
        exact ⟨_, _, rfl, s3.trans (s4.trans sn)⟩
    · rintro σ H2 ⟨a2, a3, rfl, s2⟩
      have s02 := s1.trans s2
      -- the class above all
      refine ⟨_, rfl, v, rfl, fun e dd he hd hne => ?_⟩
      have sE : Same H2 (upd (upd H2 dd (valD v)) e (exE e C0 dd)) := (same_new hd).trans (same_new (by rw [upd_ne hne.symm]; exact he))
      have s03 := s02.trans sE
      have hE : ExAt (upd (upd H2 dd (valD v)) e (exE e C0 dd)) e C0 v := ⟨dd, upd_same, by rw [upd_ne hne]; exact upd_same⟩
      refine ⟨_, rfl, e, C0, v, fun _ => false, rfl, hE, T.u0, T.kin0, fun H5 p5 hp5 s5 => ?_⟩
      have s05 := s03.trans s5
      have hE5 := hE.same s5
      obtain ⟨d5, g1, g2⟩ := id hE5
      refine ⟨p5, (List.range 37).map fun _ => false, rfl, SqL.of (by rw [hp5, List.map_map]; rfl), _, rfl, ?_⟩
      refine ite2 (fun h => absurd h (by decide)) (fun _ => ?_)
      refine ⟨_, rfl, e, C0, v, rfl, T.u0, hE5, v, d, rfl, ht.same s05, hf.sh, hsz, hdp, ?_⟩
      refine ⟨_, rfl, v, d, rfl, ht.same s05, hf.sh, hsz, hdp, rfl, _, rfl, iteNS rfl ?_⟩
      refine ⟨_, rfl, e, C0, d5, _, _, _, rfl, g1, ⟨v, g2⟩, T.u0, fun u r => r, T.kV0, _, rfl, ?_⟩
      have f2 := two_fit hf
      have hz2 := shown_fits f2 (by decide)
      have hd2 : (PyData.list [d, d]).depth ≤ 100 := Nat.le_trans f2.dp (by decide)
      refine ⟨_, rfl, v, rfl, fun H6 p6 hn6 hp6 s6 => ?_⟩
      have s06 := s05.trans s6
      refine ⟨.ref p6, .list [d, d], rfl, .lst trivial hp6 (.cons (ht.same s06) (.cons (ht.same s06) .nil)), f2.sh, hz2, hd2, ?_⟩
      refine ⟨_, rfl, _, rfl, (by show 2 ≤ sizeLine; decide), fun p7 hp7 => ?_⟩
      have s07 := s06.trans (same_new (o := .lst [v, v]) hp7)
      refine ⟨.ref p7, .list [d, d], rfl, .lst trivial upd_same (.cons (ht.same s07) (.cons (ht.same s07) .nil)), f2.sh, hz2, hd2, rfl, ?_⟩
      have ed : decide (V.str (PyData.list [d, d]).shown = V.str (PyData.list [d, d]).shown) = true := decide_eq_true rfl
      show Q (V.bl (decide (V.str (PyData.list [d, d]).shown = V.str (PyData.list [d, d]).shown))) _
      rw [ed]
      exact kk _ s07
def spLaw (K : PySem.W.Frag) : Sp := fun vs H Q _ => ∃ (a : Addr) (ns : List Int), vs = [.ref a] ∧ SqL K H a (ns.map V.int) ∧ ns.length ≤ 63 ∧ ∀ H', Q (.bl true) H'
structure TxtL (K : PySem.W.Frag) (mg : Str → Option Value) (fP fV fR : Addr) : Prop where
  gP : mg "_law_pot" = some (.ref fP)
  kP : PySem.W.keepIn K (.ref fP) = true
  gV : mg "_law_value" = some (.ref fV)
  kV : PySem.W.keepIn K (.ref fV) = true
  gR : mg "_law_right" = some (.ref fR)
  kR : PySem.W.keepIn K (.ref fR) = true
  range : mg "range" = none
  max : mg "max" = none
  min : mg "min" = none
  len : mg "len" = none
theorem scLaw : FnScope ["_law_script", "_law_k"] ["_law_script"] (defScope sLaw) := ⟨rfl, rfl, rfl, by decide +kernel, rfl, by decide +kernel, by decide +kernel⟩
theorem ok_law {f fP fV fR : Addr} {fd fdP fdV fdR : FuncData} (F : Fun K "law" "law" sLaw f fd) (T : TxtL K mg fP fV fR)
    (GP : FnOk P w K mg base CX0 1 fP fdP ["_law_script", "_law_k"] (spPot K)) (bP : Binds K fdP ["_law_script", "_law_k"] []) (GV : FnOk P w K mg base CX0 7 fV fdV ["_law_pot_here", "_law_deep"] (spVal 4)) (bV : Binds K fdV ["_law_pot_here", "_law_deep"] [])
    (GR : FnOkG P w K mg base 4 fR fdR ["_law_value_here"] spRight) (bR : Binds K fdR ["_law_value_here"] []) : FnOkG P w K mg base 8 f fd ["_law_script"] (spLaw K) := by
  refine okG F scLaw (fun vs H Q E h => ?_) (fun cdv A outer s H vs Q E hG hr h => ?_)
  · obtain ⟨a, ns, rfl, _⟩ := h
    rfl
  · obtain ⟨a, ns, rfl, hS, hlen, kk⟩ := h
    have hr1 : Room 1 _ := hr.mono (by decide)
    have hr4 : Room 4 _ := hr.mono (by decide)
    refine ⟨_, pss_cons (ps_for PassesOwn.never rfl (pi_range1 rfl T.range (pa_cons (pe_callB (call_max2 rfl) (by rfl) T.max (by decide +kernel) (pa_cons pe_int (pa_cons (pe_callB (call_min2 rfl) (by rfl) T.min (by decide +kernel)
          (pa_cons pe_int (pa_cons (pe_callB call_len_seq (by rfl) T.len PySem.boot_len (pa_cons (pv 0) pa_nil)) pa_nil))) pa_nil))) pa_nil)) (pg_name (i := 1) scLaw.nd rfl (Or.inl rfl))
        (pss_one (ps_if (pt_not (pt_val (pe_callG GR hG hr4 rfl T.gR T.kR bR pass0 (pa_cons (pe_call GV hr rfl T.gV T.kV bV .nil pass0 (pa_cons (pe_call GP hr1 rfl T.gP T.kP bP .nil pass0 (pa_cons (pv 0) (pa_cons (pv 1) pa_nil))) (pa_cons pe_int pa_nil))) pa_nil)))) (pss_one (ps_ret pe_bl)) pss_nil)))
      (pss_one (ps_ret pe_bl)), ?_⟩
    have cnt : ∀ L : Int, 0 ≤ L → (1 : Int) ≤ (if (if L < 4 then L else 4) > 1 then (if L < 4 then L else 4) else 1) ∧ (if (if L < 4 then L else 4) > 1 then (if L < 4 then L else 4) else 1) ≤ 4 := by
      intro L hL
      split <;> split <;> omega
    obtain ⟨c1, c2⟩ := cnt (((ns.map V.int).length : Nat) : Int) (by omega)
    refine ⟨_, rfl, a, _, rfl, Or.inl hS, _, _, rfl, _, _, rfl, _, rfl, by omega, by omega, for_range (lo := 0) (fun i σ H' => ∃ a1 : Option V, σ = [some (.ref a), a1] ∧ Same H H') ⟨none, rfl, fun _ _ e => e⟩ ?_ ?_⟩
    · rintro i σ H1 hi ⟨a1, rfl, s1⟩
      have hi4 : i < 4 := by omega
      refine ⟨_, rfl, _, rfl, a, ns, i, ?_, s1.seq hS, hlen, by omega, fun H2 p hn hpot s2 => ?_⟩
      · show [V.ref a, V.int (0 + (i : Int))] = [V.ref a, V.int (i : Int)]
        rw [Int.zero_add]
      refine ⟨p, 0, rfl, hpot, by decide, fun v d m' H3 ht hsm _ _ hp3 hb => ?_⟩
      have s3 : Same H1 H3 := fun b o e => hb b o (s2 b o e) (ne_of_none e hn)
      have f4 := fits 4 d hsm
      have f10 : Fits d 1000 10 := ⟨f4.sh, f4.lf, Nat.le_trans f4.bu (by decide), Nat.le_trans f4.dp (by decide)⟩
      refine ⟨v, d, rfl, Tr.move (fun _ _ => trivial) (fun _ _ _ e => e) d v ht, f10, fun H4 s4 => ?_⟩
      refine ⟨_, rfl, ?_⟩
      exact ⟨_, rfl, (s1.trans s3).trans s4⟩
    · rintro σ H1 ⟨a1, rfl, s1⟩
      exact kk _
end
end Kzero
end

section
set_option Elab.async false
set_option linter.all false
set_option maxRecDepth 100000
set_option maxHeartbeats 4000000
namespace Kzero
open PySem PySem.Spec PyProof.Rows L2
def clsAll (K : PySem.W.Frag) (fI : Addr) (cs : List Addr) : Bool := cs.all fun C => Kexc.clsB K C fI
def kitAll (K : PySem.W.Frag) (C0 : Addr) (cs : List Addr) : Bool :=
  ((List.range 37).all fun i => (List.range 37).all fun j => decide (PySem.W.kitOne K (.ref (cs.getD i 0)) (.ref (cs.getD j 0)) = some (decide (i = j)))) &&
  ((List.range 37).all fun i => decide (PySem.W.kitOne K (.ref (cs.getD i 0)) (.ref C0) = some true) && (decide (PySem.W.kitOne K (.ref (cs.getD i 0)) (.type "ValueError") = some true) && decide (PySem.W.kitOne K (.ref C0) (.ref (cs.getD i 0)) = some false))) &&
  decide (PySem.W.kitOne K (.ref C0) (.type "ValueError") = some true) && decide (PySem.W.exmOne K (.ref (cs.getD 18 0)) (.ref C0) = some true) && decide (PySem.W.exmOne K (.ref (cs.getD 31 0)) (.ref (cs.getD 36 0)) = some false) &&
  decide (PySem.W.exmOne K (.ref (cs.getD 31 0)) (.ref (cs.getD 31 0)) = some true)
theorem all_lt {p : Nat → Bool} (h : (List.range 37).all p = true) (i : Nat) (hi : i < 37) : p i = true := List.all_eq_true.mp h i (List.mem_range.mpr hi)
theorem ex_cls {K : PySem.W.Frag} {C : Addr} {nm q : Str} {N : Addr} {bs bm : List Value} {sn : List Str} {sub : List Value} {ab : Bool} {col : Option Bool} {dd : Option Addr} {k0 k1 k2 k3 k5 : Option Value} (h : K.lookup C = some (excClassObj nm q C N bs bm true sn sub ab col dd k0 k1 k2 k3 k5 "ValueError.__new__")) (hb : HandSPX.refsVE bm = true) :
    ∃ nm q N bs bm sn sub ab col dd k0 k1 k2 k3 k5, K.lookup C = some (excClassObj nm q C N bs bm true sn sub ab col dd k0 k1 k2 k3 k5 "ValueError.__new__") ∧ HandSPX.refsVE bm = true := ⟨nm, q, N, bs, bm, sn, sub, ab, col, dd, k0, k1, k2, k3, k5, h, hb⟩
theorem getD_mem (cs : List Addr) (i : Nat) (h : i < cs.length) : cs.getD i 0 ∈ cs := by
  have e : cs.getD i 0 = cs[i] := by simp [List.getD, h]
  rw [e]; exact List.getElem_mem _
theorem txtE_mk {K : PySem.W.Frag} {mg : Str → Option Value} {fI C0 : Addr} {cs : List Addr} (hl : cs.length = 37) (ex : Kexc.ExTx K fI) (hU : ∀ C ∈ C0 :: cs, ∃ nm q N bs bm sn sub ab col dd k0 k1 k2 k3 k5, K.lookup C = some (excClassObj nm q C N bs bm true sn sub ab col dd k0 k1 k2 k3 k5 "ValueError.__new__") ∧ HandSPX.refsVE bm = true)
    (hc : clsAll K fI (C0 :: cs) = true) (hk : kitAll K C0 cs = true) (g0 : mg "OnlyError" = some (.ref C0)) (gm : ∀ (i : Nat) (x : Str), nmsC[i]? = some x → mg x = some (.ref (cs.getD i 0)))
    (n1 : mg "isinstance" = none) (n2 : mg "ValueError" = none) (n3 : mg "enumerate" = none) (n4 : mg "repr" = none) (n5 : mg "range" = none) (n6 : mg "len" = none) (n7 : mg "any" = none) : TxtE K mg fI C0 (fun i => cs.getD i 0) := by
  have cl : ∀ C ∈ C0 :: cs, Kexc.ExCl K C fI := fun C hm => Kexc.exCl_of (hU C hm) (List.all_eq_true.mp hc C hm)
  unfold kitAll at hk
  simp only [Bool.and_eq_true, decide_eq_true_eq] at hk
  obtain ⟨⟨⟨⟨⟨h1, h2⟩, h3⟩, h4⟩, h5⟩, h6⟩ := hk
  have r2 : ∀ i, i < 37 → PySem.W.kitOne K (.ref (cs.getD i 0)) (.ref C0) = some true ∧ PySem.W.kitOne K (.ref (cs.getD i 0)) (.type "ValueError") = some true ∧ PySem.W.kitOne K (.ref C0) (.ref (cs.getD i 0)) = some false := fun i hi => by
    have z := all_lt h2 i hi
    simpa only [Bool.and_eq_true, decide_eq_true_eq] using z
  exact { ex := ex, u0 := cl C0 List.mem_cons_self, g0 := g0, cl := fun i hi => cl _ (List.mem_cons_of_mem _ (getD_mem cs i (by omega))), gm := gm, kit := fun i j hi hj => of_decide_eq_true (all_lt (all_lt h1 i hi) j hj), kit0 := fun i hi => (r2 i hi).1, kitV := fun i hi => (r2 i hi).2.1, kin0 := fun i hi => (r2 i hi).2.2, kV0 := h3, e1 := h4, e2 := h5, e3 := h6, isi := n1, ve := n2, enu := n3, rep := n4, rng := n5, len := n6, any := n7 }
theorem all_mk {l : PySem.W.OpenLaw} {w : World} {K : PySem.W.Frag} {h : Heap} {mg : Str → Option Value} {fa fI C0 c0 c1 c2 c3 c4 c5 c6 c7 c8 c9 c10 c11 c12 c13 c14 c15 c16 c17 c18 c19 c20 c21 c22 c23 c24 c25 c26 c27 c28 c29 c30 c31 c32 c33 c34 c35 c36 f0 f1 f2 f3 f4 f5 f6 f7 f8 : Addr} (X : K.In h) (G : h.Ns mainGlobals mg) (hfa : mg "law" = some (.ref fa))
    {od0 an0 od1 an1 od2 an2 od3 an3 od4 an4 od5 an5 od6 an6 od7 an7 od8 an8 odI anI : Option Addr} {sl0 sl1 sl2 sl3 sl4 sl5 sl6 sl7 sl8 slI : Array (Option Value)} {oc0 kV0 dc0 pm0 cd0 ct0 oc1 kV1 dc1 pm1 cd1 ct1 oc2 kV2 dc2 pm2 cd2 ct2 oc3 kV3 dc3 pm3 cd3 ct3 oc4 kV4 dc4 pm4 cd4 ct4 oc5 kV5 dc5 pm5 cd5 ct5 oc6 kV6 dc6 pm6 cd6 ct6 oc7 kV7 dc7 pm7 cd7 ct7 oc8 kV8 dc8 pm8 cd8 ct8 ocI dcI pmI cdI ctI : Value}
    (g0 : PySem.W.nsIn K mainGlobals "OnlyError" = some (some (.ref C0)))
    (gBadBook : PySem.W.nsIn K mainGlobals "BadBook" = some (some (.ref c0)))
    (gUnnamed : PySem.W.nsIn K mainGlobals "Unnamed" = some (some (.ref c1)))
    (gUpward : PySem.W.nsIn K mainGlobals "Upward" = some (some (.ref c2)))
    (gNoDeed : PySem.W.nsIn K mainGlobals "NoDeed" = some (some (.ref c3)))
    (gBadDeeds : PySem.W.nsIn K mainGlobals "BadDeeds" = some (some (.ref c4)))
    (gBadStore : PySem.W.nsIn K mainGlobals "BadStore" = some (some (.ref c5)))
    (gBadRow : PySem.W.nsIn K mainGlobals "BadRow" = some (some (.ref c6)))
    (gNoKey : PySem.W.nsIn K mainGlobals "NoKey" = some (some (.ref c7)))
    (gGone : PySem.W.nsIn K mainGlobals "Gone" = some (some (.ref c8)))
    (gBadWorth : PySem.W.nsIn K mainGlobals "BadWorth" = some (some (.ref c9)))
    (gLasting : PySem.W.nsIn K mainGlobals "Lasting" = some (some (.ref c10)))
    (gOtherStore : PySem.W.nsIn K mainGlobals "OtherStore" = some (some (.ref c11)))
    (gBadInput : PySem.W.nsIn K mainGlobals "BadInput" = some (some (.ref c12)))
    (gBadMemory : PySem.W.nsIn K mainGlobals "BadMemory" = some (some (.ref c13)))
    (gBadMachine : PySem.W.nsIn K mainGlobals "BadMachine" = some (some (.ref c14)))
    (gBadState : PySem.W.nsIn K mainGlobals "BadState" = some (some (.ref c15)))
    (gBadLetter : PySem.W.nsIn K mainGlobals "BadLetter" = some (some (.ref c16)))
    (gUnlike : PySem.W.nsIn K mainGlobals "Unlike" = some (some (.ref c17)))
    (gTooMany : PySem.W.nsIn K mainGlobals "TooMany" = some (some (.ref c18)))
    (gBadOffers : PySem.W.nsIn K mainGlobals "BadOffers" = some (some (.ref c19)))
    (gBadWish : PySem.W.nsIn K mainGlobals "BadWish" = some (some (.ref c20)))
    (gBadPrices : PySem.W.nsIn K mainGlobals "BadPrices" = some (some (.ref c21)))
    (gBadLetters : PySem.W.nsIn K mainGlobals "BadLetters" = some (some (.ref c22)))
    (gBadRows : PySem.W.nsIn K mainGlobals "BadRows" = some (some (.ref c23)))
    (gBadWishes : PySem.W.nsIn K mainGlobals "BadWishes" = some (some (.ref c24)))
    (gBadKeys : PySem.W.nsIn K mainGlobals "BadKeys" = some (some (.ref c25)))
    (gBadHands : PySem.W.nsIn K mainGlobals "BadHands" = some (some (.ref c26)))
    (gBadSteps : PySem.W.nsIn K mainGlobals "BadSteps" = some (some (.ref c27)))
    (gBadTelling : PySem.W.nsIn K mainGlobals "BadTelling" = some (some (.ref c28)))
    (gNoEffect : PySem.W.nsIn K mainGlobals "NoEffect" = some (some (.ref c29)))
    (gOtherBook : PySem.W.nsIn K mainGlobals "OtherBook" = some (some (.ref c30)))
    (gStuck : PySem.W.nsIn K mainGlobals "Stuck" = some (some (.ref c31)))
    (gBadSwitch : PySem.W.nsIn K mainGlobals "BadSwitch" = some (some (.ref c32)))
    (gOtherPreview : PySem.W.nsIn K mainGlobals "OtherPreview" = some (some (.ref c33)))
    (gShowing : PySem.W.nsIn K mainGlobals "Showing" = some (some (.ref c34)))
    (gSpoilt : PySem.W.nsIn K mainGlobals "Spoilt" = some (some (.ref c35)))
    (gBadLine : PySem.W.nsIn K mainGlobals "BadLine" = some (some (.ref c36)))
    (iI : PySem.W.findIn K (.ref C0) "__init__" = some (some (.ref fI)))
    (tI : PySem.W.typeIn K (.ref fI) = some (.type "function"))
    (lI : K.lookup fI = some ⟨ocI, odI, .func (PySem.W.fnOf "__init__" "OnlyError.__init__" (Kexc.inA ⟨4, 17, 4, 21⟩ ⟨4, 23, 4, 28⟩) (Kexc.inB ⟨5, 8, 5, 12⟩ ⟨5, 8, 5, 18⟩ ⟨5, 21, 5, 26⟩ ⟨5, 8, 5, 26⟩) Kexc.inS .none .none dcI pmI anI cdI ctI), slI⟩)
    (cI : PySem.W.codeIn K cdI "OnlyError.__init__" = true)
    (hn : PySem.W.specialIn K (.builtin "object.__class__") "__get__" = some (some (.builtin "getset_descriptor.__get__")))
    (ht : PySem.W.takesIn K (.builtin "object.__class__") = some true)
    (x0 : (∃ nm q N bs bm sn sub ab col dd k0 k1 k2 k3 k5, K.lookup C0 = some (excClassObj nm q C0 N bs bm true sn sub ab col dd k0 k1 k2 k3 k5 "ValueError.__new__") ∧ HandSPX.refsVE bm = true))
    (xBadBook : (∃ nm q N bs bm sn sub ab col dd k0 k1 k2 k3 k5, K.lookup c0 = some (excClassObj nm q c0 N bs bm true sn sub ab col dd k0 k1 k2 k3 k5 "ValueError.__new__") ∧ HandSPX.refsVE bm = true))
    (xUnnamed : (∃ nm q N bs bm sn sub ab col dd k0 k1 k2 k3 k5, K.lookup c1 = some (excClassObj nm q c1 N bs bm true sn sub ab col dd k0 k1 k2 k3 k5 "ValueError.__new__") ∧ HandSPX.refsVE bm = true))
    (xUpward : (∃ nm q N bs bm sn sub ab col dd k0 k1 k2 k3 k5, K.lookup c2 = some (excClassObj nm q c2 N bs bm true sn sub ab col dd k0 k1 k2 k3 k5 "ValueError.__new__") ∧ HandSPX.refsVE bm = true))
    (xNoDeed : (∃ nm q N bs bm sn sub ab col dd k0 k1 k2 k3 k5, K.lookup c3 = some (excClassObj nm q c3 N bs bm true sn sub ab col dd k0 k1 k2 k3 k5 "ValueError.__new__") ∧ HandSPX.refsVE bm = true))
    (xBadDeeds : (∃ nm q N bs bm sn sub ab col dd k0 k1 k2 k3 k5, K.lookup c4 = some (excClassObj nm q c4 N bs bm true sn sub ab col dd k0 k1 k2 k3 k5 "ValueError.__new__") ∧ HandSPX.refsVE bm = true))
    (xBadStore : (∃ nm q N bs bm sn sub ab col dd k0 k1 k2 k3 k5, K.lookup c5 = some (excClassObj nm q c5 N bs bm true sn sub ab col dd k0 k1 k2 k3 k5 "ValueError.__new__") ∧ HandSPX.refsVE bm = true))
    (xBadRow : (∃ nm q N bs bm sn sub ab col dd k0 k1 k2 k3 k5, K.lookup c6 = some (excClassObj nm q c6 N bs bm true sn sub ab col dd k0 k1 k2 k3 k5 "ValueError.__new__") ∧ HandSPX.refsVE bm = true))
    (xNoKey : (∃ nm q N bs bm sn sub ab col dd k0 k1 k2 k3 k5, K.lookup c7 = some (excClassObj nm q c7 N bs bm true sn sub ab col dd k0 k1 k2 k3 k5 "ValueError.__new__") ∧ HandSPX.refsVE bm = true))
    (xGone : (∃ nm q N bs bm sn sub ab col dd k0 k1 k2 k3 k5, K.lookup c8 = some (excClassObj nm q c8 N bs bm true sn sub ab col dd k0 k1 k2 k3 k5 "ValueError.__new__") ∧ HandSPX.refsVE bm = true))
    (xBadWorth : (∃ nm q N bs bm sn sub ab col dd k0 k1 k2 k3 k5, K.lookup c9 = some (excClassObj nm q c9 N bs bm true sn sub ab col dd k0 k1 k2 k3 k5 "ValueError.__new__") ∧ HandSPX.refsVE bm = true))
    (xLasting : (∃ nm q N bs bm sn sub ab col dd k0 k1 k2 k3 k5, K.lookup c10 = some (excClassObj nm q c10 N bs bm true sn sub ab col dd k0 k1 k2 k3 k5 "ValueError.__new__") ∧ HandSPX.refsVE bm = true))
    (xOtherStore : (∃ nm q N bs bm sn sub ab col dd k0 k1 k2 k3 k5, K.lookup c11 = some (excClassObj nm q c11 N bs bm true sn sub ab col dd k0 k1 k2 k3 k5 "ValueError.__new__") ∧ HandSPX.refsVE bm = true))
    (xBadInput : (∃ nm q N bs bm sn sub ab col dd k0 k1 k2 k3 k5, K.lookup c12 = some (excClassObj nm q c12 N bs bm true sn sub ab col dd k0 k1 k2 k3 k5 "ValueError.__new__") ∧ HandSPX.refsVE bm = true))
    (xBadMemory : (∃ nm q N bs bm sn sub ab col dd k0 k1 k2 k3 k5, K.lookup c13 = some (excClassObj nm q c13 N bs bm true sn sub ab col dd k0 k1 k2 k3 k5 "ValueError.__new__") ∧ HandSPX.refsVE bm = true))
    (xBadMachine : (∃ nm q N bs bm sn sub ab col dd k0 k1 k2 k3 k5, K.lookup c14 = some (excClassObj nm q c14 N bs bm true sn sub ab col dd k0 k1 k2 k3 k5 "ValueError.__new__") ∧ HandSPX.refsVE bm = true))
    (xBadState : (∃ nm q N bs bm sn sub ab col dd k0 k1 k2 k3 k5, K.lookup c15 = some (excClassObj nm q c15 N bs bm true sn sub ab col dd k0 k1 k2 k3 k5 "ValueError.__new__") ∧ HandSPX.refsVE bm = true))
    (xBadLetter : (∃ nm q N bs bm sn sub ab col dd k0 k1 k2 k3 k5, K.lookup c16 = some (excClassObj nm q c16 N bs bm true sn sub ab col dd k0 k1 k2 k3 k5 "ValueError.__new__") ∧ HandSPX.refsVE bm = true))
    (xUnlike : (∃ nm q N bs bm sn sub ab col dd k0 k1 k2 k3 k5, K.lookup c17 = some (excClassObj nm q c17 N bs bm true sn sub ab col dd k0 k1 k2 k3 k5 "ValueError.__new__") ∧ HandSPX.refsVE bm = true))
    (xTooMany : (∃ nm q N bs bm sn sub ab col dd k0 k1 k2 k3 k5, K.lookup c18 = some (excClassObj nm q c18 N bs bm true sn sub ab col dd k0 k1 k2 k3 k5 "ValueError.__new__") ∧ HandSPX.refsVE bm = true))
    (xBadOffers : (∃ nm q N bs bm sn sub ab col dd k0 k1 k2 k3 k5, K.lookup c19 = some (excClassObj nm q c19 N bs bm true sn sub ab col dd k0 k1 k2 k3 k5 "ValueError.__new__") ∧ HandSPX.refsVE bm = true))
    (xBadWish : (∃ nm q N bs bm sn sub ab col dd k0 k1 k2 k3 k5, K.lookup c20 = some (excClassObj nm q c20 N bs bm true sn sub ab col dd k0 k1 k2 k3 k5 "ValueError.__new__") ∧ HandSPX.refsVE bm = true))
    (xBadPrices : (∃ nm q N bs bm sn sub ab col dd k0 k1 k2 k3 k5, K.lookup c21 = some (excClassObj nm q c21 N bs bm true sn sub ab col dd k0 k1 k2 k3 k5 "ValueError.__new__") ∧ HandSPX.refsVE bm = true))
    (xBadLetters : (∃ nm q N bs bm sn sub ab col dd k0 k1 k2 k3 k5, K.lookup c22 = some (excClassObj nm q c22 N bs bm true sn sub ab col dd k0 k1 k2 k3 k5 "ValueError.__new__") ∧ HandSPX.refsVE bm = true))
    (xBadRows : (∃ nm q N bs bm sn sub ab col dd k0 k1 k2 k3 k5, K.lookup c23 = some (excClassObj nm q c23 N bs bm true sn sub ab col dd k0 k1 k2 k3 k5 "ValueError.__new__") ∧ HandSPX.refsVE bm = true))
    (xBadWishes : (∃ nm q N bs bm sn sub ab col dd k0 k1 k2 k3 k5, K.lookup c24 = some (excClassObj nm q c24 N bs bm true sn sub ab col dd k0 k1 k2 k3 k5 "ValueError.__new__") ∧ HandSPX.refsVE bm = true))
    (xBadKeys : (∃ nm q N bs bm sn sub ab col dd k0 k1 k2 k3 k5, K.lookup c25 = some (excClassObj nm q c25 N bs bm true sn sub ab col dd k0 k1 k2 k3 k5 "ValueError.__new__") ∧ HandSPX.refsVE bm = true))
    (xBadHands : (∃ nm q N bs bm sn sub ab col dd k0 k1 k2 k3 k5, K.lookup c26 = some (excClassObj nm q c26 N bs bm true sn sub ab col dd k0 k1 k2 k3 k5 "ValueError.__new__") ∧ HandSPX.refsVE bm = true))
    (xBadSteps : (∃ nm q N bs bm sn sub ab col dd k0 k1 k2 k3 k5, K.lookup c27 = some (excClassObj nm q c27 N bs bm true sn sub ab col dd k0 k1 k2 k3 k5 "ValueError.__new__") ∧ HandSPX.refsVE bm = true))
    (xBadTelling : (∃ nm q N bs bm sn sub ab col dd k0 k1 k2 k3 k5, K.lookup c28 = some (excClassObj nm q c28 N bs bm true sn sub ab col dd k0 k1 k2 k3 k5 "ValueError.__new__") ∧ HandSPX.refsVE bm = true))
    (xNoEffect : (∃ nm q N bs bm sn sub ab col dd k0 k1 k2 k3 k5, K.lookup c29 = some (excClassObj nm q c29 N bs bm true sn sub ab col dd k0 k1 k2 k3 k5 "ValueError.__new__") ∧ HandSPX.refsVE bm = true))
    (xOtherBook : (∃ nm q N bs bm sn sub ab col dd k0 k1 k2 k3 k5, K.lookup c30 = some (excClassObj nm q c30 N bs bm true sn sub ab col dd k0 k1 k2 k3 k5 "ValueError.__new__") ∧ HandSPX.refsVE bm = true))
    (xStuck : (∃ nm q N bs bm sn sub ab col dd k0 k1 k2 k3 k5, K.lookup c31 = some (excClassObj nm q c31 N bs bm true sn sub ab col dd k0 k1 k2 k3 k5 "ValueError.__new__") ∧ HandSPX.refsVE bm = true))
    (xBadSwitch : (∃ nm q N bs bm sn sub ab col dd k0 k1 k2 k3 k5, K.lookup c32 = some (excClassObj nm q c32 N bs bm true sn sub ab col dd k0 k1 k2 k3 k5 "ValueError.__new__") ∧ HandSPX.refsVE bm = true))
    (xOtherPreview : (∃ nm q N bs bm sn sub ab col dd k0 k1 k2 k3 k5, K.lookup c33 = some (excClassObj nm q c33 N bs bm true sn sub ab col dd k0 k1 k2 k3 k5 "ValueError.__new__") ∧ HandSPX.refsVE bm = true))
    (xShowing : (∃ nm q N bs bm sn sub ab col dd k0 k1 k2 k3 k5, K.lookup c34 = some (excClassObj nm q c34 N bs bm true sn sub ab col dd k0 k1 k2 k3 k5 "ValueError.__new__") ∧ HandSPX.refsVE bm = true))
    (xSpoilt : (∃ nm q N bs bm sn sub ab col dd k0 k1 k2 k3 k5, K.lookup c35 = some (excClassObj nm q c35 N bs bm true sn sub ab col dd k0 k1 k2 k3 k5 "ValueError.__new__") ∧ HandSPX.refsVE bm = true))
    (xBadLine : (∃ nm q N bs bm sn sub ab col dd k0 k1 k2 k3 k5, K.lookup c36 = some (excClassObj nm q c36 N bs bm true sn sub ab col dd k0 k1 k2 k3 k5 "ValueError.__new__") ∧ HandSPX.refsVE bm = true))
    (hcls : clsAll K fI [C0, c0, c1, c2, c3, c4, c5, c6, c7, c8, c9, c10, c11, c12, c13, c14, c15, c16, c17, c18, c19, c20, c21, c22, c23, c24, c25, c26, c27, c28, c29, c30, c31, c32, c33, c34, c35, c36] = true)
    (hkit : kitAll K C0 [c0, c1, c2, c3, c4, c5, c6, c7, c8, c9, c10, c11, c12, c13, c14, c15, c16, c17, c18, c19, c20, c21, c22, c23, c24, c25, c26, c27, c28, c29, c30, c31, c32, c33, c34, c35, c36] = true)
    (a0 : PySem.W.nsIn K mainGlobals "_law_pot" = some (some (.ref f0)))
    (l0 : K.lookup f0 = some ⟨oc0, od0, .func (PySem.W.fnOf "_law_pot" "_law_pot" (defArgs sPot) (defBody sPot) (defScope sPot) .none kV0 dc0 pm0 an0 cd0 ct0), sl0⟩)
    (d0 : PySem.W.codeIn K cd0 "_law_pot" = true)
    (k0 : PySem.W.keepIn K (.ref f0) = true)
    (a1 : PySem.W.nsIn K mainGlobals "_law_take" = some (some (.ref f1)))
    (l1 : K.lookup f1 = some ⟨oc1, od1, .func (PySem.W.fnOf "_law_take" "_law_take" (defArgs sTake) (defBody sTake) (defScope sTake) .none kV1 dc1 pm1 an1 cd1 ct1), sl1⟩)
    (d1 : PySem.W.codeIn K cd1 "_law_take" = true)
    (k1 : PySem.W.keepIn K (.ref f1) = true)
    (a2 : PySem.W.nsIn K mainGlobals "_law_of" = some (some (.ref f2)))
    (l2 : K.lookup f2 = some ⟨oc2, od2, .func (PySem.W.fnOf "_law_of" "_law_of" (defArgs sOf) (defBody sOf) (defScope sOf) .none kV2 dc2 pm2 an2 cd2 ct2), sl2⟩)
    (d2 : PySem.W.codeIn K cd2 "_law_of" = true)
    (k2 : PySem.W.keepIn K (.ref f2) = true)
    (a3 : PySem.W.nsIn K mainGlobals "_law_value" = some (some (.ref f3)))
    (l3 : K.lookup f3 = some ⟨oc3, od3, .func (PySem.W.fnOf "_law_value" "_law_value" (defArgs sValue) (defBody sValue) (defScope sValue) .none kV3 dc3 pm3 an3 cd3 ct3), sl3⟩)
    (d3 : PySem.W.codeIn K cd3 "_law_value" = true)
    (k3 : PySem.W.keepIn K (.ref f3) = true)
    (a4 : PySem.W.nsIn K mainGlobals "_law_made" = some (some (.ref f4)))
    (l4 : K.lookup f4 = some ⟨oc4, od4, .func (PySem.W.fnOf "_law_made" "_law_made" (defArgs sMade) (defBody sMade) (defScope sMade) .none kV4 dc4 pm4 an4 cd4 ct4), sl4⟩)
    (d4 : PySem.W.codeIn K cd4 "_law_made" = true)
    (k4 : PySem.W.keepIn K (.ref f4) = true)
    (a5 : PySem.W.nsIn K mainGlobals "_law_marks" = some (some (.ref f5)))
    (l5 : K.lookup f5 = some ⟨oc5, od5, .func (PySem.W.fnOf "_law_marks" "_law_marks" (defArgs sMarks) (defBody sMarks) (defScope sMarks) .none kV5 dc5 pm5 an5 cd5 ct5), sl5⟩)
    (d5 : PySem.W.codeIn K cd5 "_law_marks" = true)
    (k5 : PySem.W.keepIn K (.ref f5) = true)
    (a6 : PySem.W.nsIn K mainGlobals "_law_caught" = some (some (.ref f6)))
    (l6 : K.lookup f6 = some ⟨oc6, od6, .func (PySem.W.fnOf "_law_caught" "_law_caught" (defArgs sCaught) (defBody sCaught) (defScope sCaught) .none kV6 dc6 pm6 an6 cd6 ct6), sl6⟩)
    (d6 : PySem.W.codeIn K cd6 "_law_caught" = true)
    (k6 : PySem.W.keepIn K (.ref f6) = true)
    (a7 : PySem.W.nsIn K mainGlobals "_law_right" = some (some (.ref f7)))
    (l7 : K.lookup f7 = some ⟨oc7, od7, .func (PySem.W.fnOf "_law_right" "_law_right" (defArgs sRight) (defBody sRight) (defScope sRight) .none kV7 dc7 pm7 an7 cd7 ct7), sl7⟩)
    (d7 : PySem.W.codeIn K cd7 "_law_right" = true)
    (k7 : PySem.W.keepIn K (.ref f7) = true)
    (a8 : PySem.W.nsIn K mainGlobals "law" = some (some (.ref f8)))
    (l8 : K.lookup f8 = some ⟨oc8, od8, .func (PySem.W.fnOf "law" "law" (defArgs sLaw) (defBody sLaw) (defScope sLaw) .none kV8 dc8 pm8 an8 cd8 ct8), sl8⟩)
    (d8 : PySem.W.codeIn K cd8 "law" = true)
    (k8 : PySem.W.keepIn K (.ref f8) = true)
    (zlen : PySem.W.nsIn K mainGlobals "len" = some none)
    (zabs : PySem.W.nsIn K mainGlobals "abs" = some none)
    (zint : PySem.W.nsIn K mainGlobals "int" = some none)
    (zrange : PySem.W.nsIn K mainGlobals "range" = some none)
    (zdict : PySem.W.nsIn K mainGlobals "dict" = some none)
    (zlist : PySem.W.nsIn K mainGlobals "list" = some none)
    (zzip : PySem.W.nsIn K mainGlobals "zip" = some none)
    (ztuple : PySem.W.nsIn K mainGlobals "tuple" = some none)
    (zisinstance : PySem.W.nsIn K mainGlobals "isinstance" = some none)
    (zValueError : PySem.W.nsIn K mainGlobals "ValueError" = some none)
    (zenumerate : PySem.W.nsIn K mainGlobals "enumerate" = some none)
    (zrepr : PySem.W.nsIn K mainGlobals "repr" = some none)
    (zany : PySem.W.nsIn K mainGlobals "any" = some none)
    (zmax : PySem.W.nsIn K mainGlobals "max" = some none)
    (zmin : PySem.W.nsIn K mainGlobals "min" = some none)
    : ∃ fd : FuncData, (∀ (s : Shared) (u : Value), BindsTo s fd ⟨[u], []⟩ [("_law_script", u)]) ∧
      ∀ base : Heap, K.In base → base.Ns mainGlobals mg → (∃ o, base.get? sysModules = some o) → FnOkG l.prog w K mg base 8 fa fd ["_law_script"] (spLaw K) := by
  have e := hfa.symm.trans (PySem.W.mg_of X G a8)
  cases e
  have F0 := fun_mk (st := sPot) l0 d0 k0
  have F1 := fun_mk (st := sTake) l1 d1 k1
  have F2 := fun_mk (st := sOf) l2 d2 k2
  have F3 := fun_mk (st := sValue) l3 d3 k3
  have F4 := fun_mk (st := sMade) l4 d4 k4
  have F5 := fun_mk (st := sMarks) l5 d5 k5
  have F6 := fun_mk (st := sCaught) l6 d6 k6
  have F7 := fun_mk (st := sRight) l7 d7 k7
  have F8 := fun_mk (st := sLaw) l8 d8 k8
  have b0 := F0.binds (ps := ["_law_script", "_law_k"]) fun _ _ _ _ _ _ us hl => match us, hl with | [_, _], _ => rfl
  have b1 := F1.binds (ps := ["_law_pot_here", "_law_upto"]) fun _ _ _ _ _ _ us hl => match us, hl with | [_, _], _ => rfl
  have b2 := F2.binds (ps := ["_law_pot_here", "_law_some"]) fun _ _ _ _ _ _ us hl => match us, hl with | [_, _], _ => rfl
  have b3 := F3.binds (ps := ["_law_pot_here", "_law_deep"]) fun _ _ _ _ _ _ us hl => match us, hl with | [_, _], _ => rfl
  have b4 := F4.binds (ps := ["_law_one"]) fun _ _ _ _ _ _ us hl => match us, hl with | [_], _ => rfl
  have b5 := F5.binds (ps := ["_law_error"]) fun _ _ _ _ _ _ us hl => match us, hl with | [_], _ => rfl
  have b6 := F6.binds (ps := ["_law_value_here"]) fun _ _ _ _ _ _ us hl => match us, hl with | [_], _ => rfl
  have b7 := F7.binds (ps := ["_law_value_here"]) fun _ _ _ _ _ _ us hl => match us, hl with | [_], _ => rfl
  have ex : Kexc.ExTx K fI := ⟨tI, ⟨_, _, _, _, _, _, _, _, _, _, _, _, _, _, lI, cI⟩, hn, ht⟩
  have mlen : mg "len" = none := PySem.W.mg_none_of X G zlen
  have mabs : mg "abs" = none := PySem.W.mg_none_of X G zabs
  have mint : mg "int" = none := PySem.W.mg_none_of X G zint
  have mrange : mg "range" = none := PySem.W.mg_none_of X G zrange
  have mdict : mg "dict" = none := PySem.W.mg_none_of X G zdict
  have mlist : mg "list" = none := PySem.W.mg_none_of X G zlist
  have mzip : mg "zip" = none := PySem.W.mg_none_of X G zzip
  have mtuple : mg "tuple" = none := PySem.W.mg_none_of X G ztuple
  have misinstance : mg "isinstance" = none := PySem.W.mg_none_of X G zisinstance
  have mValueError : mg "ValueError" = none := PySem.W.mg_none_of X G zValueError
  have menumerate : mg "enumerate" = none := PySem.W.mg_none_of X G zenumerate
  have mrepr : mg "repr" = none := PySem.W.mg_none_of X G zrepr
  have many : mg "any" = none := PySem.W.mg_none_of X G zany
  have mmax : mg "max" = none := PySem.W.mg_none_of X G zmax
  have mmin : mg "min" = none := PySem.W.mg_none_of X G zmin
  have hU : ∀ C ∈ [C0, c0, c1, c2, c3, c4, c5, c6, c7, c8, c9, c10, c11, c12, c13, c14, c15, c16, c17, c18, c19, c20, c21, c22, c23, c24, c25, c26, c27, c28, c29, c30, c31, c32, c33, c34, c35, c36], ∃ nm q N bs bm sn sub ab col dd k0 k1 k2 k3 k5, K.lookup C = some (excClassObj nm q C N bs bm true sn sub ab col dd k0 k1 k2 k3 k5 "ValueError.__new__") ∧ HandSPX.refsVE bm = true := by
    intro C hC
    simp only [List.mem_cons, List.not_mem_nil, or_false] at hC
    rcases hC with rfl | rfl | rfl | rfl | rfl | rfl | rfl | rfl | rfl | rfl | rfl | rfl | rfl | rfl | rfl | rfl | rfl | rfl | rfl | rfl | rfl | rfl | rfl | rfl | rfl | rfl | rfl | rfl | rfl | rfl | rfl | rfl | rfl | rfl | rfl | rfl | rfl | rfl
    · exact x0
    · exact xBadBook
    · exact xUnnamed
    · exact xUpward
    · exact xNoDeed
    · exact xBadDeeds
    · exact xBadStore
    · exact xBadRow
    · exact xNoKey
    · exact xGone
    · exact xBadWorth
    · exact xLasting
    · exact xOtherStore
    · exact xBadInput
    · exact xBadMemory
    · exact xBadMachine
    · exact xBadState
    · exact xBadLetter
    · exact xUnlike
    · exact xTooMany
    · exact xBadOffers
    · exact xBadWish
    · exact xBadPrices
    · exact xBadLetters
    · exact xBadRows
    · exact xBadWishes
    · exact xBadKeys
    · exact xBadHands
    · exact xBadSteps
    · exact xBadTelling
    · exact xNoEffect
    · exact xOtherBook
    · exact xStuck
    · exact xBadSwitch
    · exact xOtherPreview
    · exact xShowing
    · exact xSpoilt
    · exact xBadLine
  have gm : ∀ (i : Nat) (x : Str), nmsC[i]? = some x → mg x = some (.ref (([c0, c1, c2, c3, c4, c5, c6, c7, c8, c9, c10, c11, c12, c13, c14, c15, c16, c17, c18, c19, c20, c21, c22, c23, c24, c25, c26, c27, c28, c29, c30, c31, c32, c33, c34, c35, c36] : List Addr).getD i 0)) := by
    intro i x hx
    match i, hx with
    | 0, hx =>
      have e : ("BadBook" : Str) = x := Option.some.inj hx
      rw [← e]
      exact PySem.W.mg_of X G gBadBook
    | 1, hx =>
      have e : ("Unnamed" : Str) = x := Option.some.inj hx
      rw [← e]
      exact PySem.W.mg_of X G gUnnamed
    | 2, hx =>
      have e : ("Upward" : Str) = x := Option.some.inj hx
      rw [← e]
      exact PySem.W.mg_of X G gUpward
    | 3, hx =>
      have e : ("NoDeed" : Str) = x := Option.some.inj hx
      rw [← e]
      exact PySem.W.mg_of X G gNoDeed
    | 4, hx =>
      have e : ("BadDeeds" : Str) = x := Option.some.inj hx
      rw [← e]
      exact PySem.W.mg_of X G gBadDeeds
    | 5, hx =>
      have e : ("BadStore" : Str) = x := Option.some.inj hx
      rw [← e]
      exact PySem.W.mg_of X G gBadStore
    | 6, hx =>
      have e : ("BadRow" : Str) = x := Option.some.inj hx
      rw [← e]
      exact PySem.W.mg_of X G gBadRow
    | 7, hx =>
      have e : ("NoKey" : Str) = x := Option.some.inj hx
      rw [← e]
      exact PySem.W.mg_of X G gNoKey
    | 8, hx =>
      have e : ("Gone" : Str) = x := Option.some.inj hx
      rw [← e]
      exact PySem.W.mg_of X G gGone
    | 9, hx =>
      have e : ("BadWorth" : Str) = x := Option.some.inj hx
      rw [← e]
      exact PySem.W.mg_of X G gBadWorth
    | 10, hx =>
      have e : ("Lasting" : Str) = x := Option.some.inj hx
      rw [← e]
      exact PySem.W.mg_of X G gLasting
    | 11, hx =>
      have e : ("OtherStore" : Str) = x := Option.some.inj hx
      rw [← e]
      exact PySem.W.mg_of X G gOtherStore
    | 12, hx =>
      have e : ("BadInput" : Str) = x := Option.some.inj hx
      rw [← e]
      exact PySem.W.mg_of X G gBadInput
    | 13, hx =>
      have e : ("BadMemory" : Str) = x := Option.some.inj hx
      rw [← e]
      exact PySem.W.mg_of X G gBadMemory
    | 14, hx =>
      have e : ("BadMachine" : Str) = x := Option.some.inj hx
      rw [← e]
      exact PySem.W.mg_of X G gBadMachine
    | 15, hx =>
      have e : ("BadState" : Str) = x := Option.some.inj hx
      rw [← e]
      exact PySem.W.mg_of X G gBadState
    | 16, hx =>
      have e : ("BadLetter" : Str) = x := Option.some.inj hx
      rw [← e]
      exact PySem.W.mg_of X G gBadLetter
    | 17, hx =>
      have e : ("Unlike" : Str) = x := Option.some.inj hx
      rw [← e]
      exact PySem.W.mg_of X G gUnlike
    | 18, hx =>
      have e : ("TooMany" : Str) = x := Option.some.inj hx
      rw [← e]
      exact PySem.W.mg_of X G gTooMany
    | 19, hx =>
      have e : ("BadOffers" : Str) = x := Option.some.inj hx
      rw [← e]
      exact PySem.W.mg_of X G gBadOffers
    | 20, hx =>
      have e : ("BadWish" : Str) = x := Option.some.inj hx
      rw [← e]
      exact PySem.W.mg_of X G gBadWish
    | 21, hx =>
      have e : ("BadPrices" : Str) = x := Option.some.inj hx
      rw [← e]
      exact PySem.W.mg_of X G gBadPrices
    | 22, hx =>
      have e : ("BadLetters" : Str) = x := Option.some.inj hx
      rw [← e]
      exact PySem.W.mg_of X G gBadLetters
    | 23, hx =>
      have e : ("BadRows" : Str) = x := Option.some.inj hx
      rw [← e]
      exact PySem.W.mg_of X G gBadRows
    | 24, hx =>
      have e : ("BadWishes" : Str) = x := Option.some.inj hx
      rw [← e]
      exact PySem.W.mg_of X G gBadWishes
    | 25, hx =>
      have e : ("BadKeys" : Str) = x := Option.some.inj hx
      rw [← e]
      exact PySem.W.mg_of X G gBadKeys
    | 26, hx =>
      have e : ("BadHands" : Str) = x := Option.some.inj hx
      rw [← e]
      exact PySem.W.mg_of X G gBadHands
    | 27, hx =>
      have e : ("BadSteps" : Str) = x := Option.some.inj hx
      rw [← e]
      exact PySem.W.mg_of X G gBadSteps
    | 28, hx =>
      have e : ("BadTelling" : Str) = x := Option.some.inj hx
      rw [← e]
      exact PySem.W.mg_of X G gBadTelling
    | 29, hx =>
      have e : ("NoEffect" : Str) = x := Option.some.inj hx
      rw [← e]
      exact PySem.W.mg_of X G gNoEffect
    | 30, hx =>
      have e : ("OtherBook" : Str) = x := Option.some.inj hx
      rw [← e]
      exact PySem.W.mg_of X G gOtherBook
    | 31, hx =>
      have e : ("Stuck" : Str) = x := Option.some.inj hx
      rw [← e]
      exact PySem.W.mg_of X G gStuck
    | 32, hx =>
      have e : ("BadSwitch" : Str) = x := Option.some.inj hx
      rw [← e]
      exact PySem.W.mg_of X G gBadSwitch
    | 33, hx =>
      have e : ("OtherPreview" : Str) = x := Option.some.inj hx
      rw [← e]
      exact PySem.W.mg_of X G gOtherPreview
    | 34, hx =>
      have e : ("Showing" : Str) = x := Option.some.inj hx
      rw [← e]
      exact PySem.W.mg_of X G gShowing
    | 35, hx =>
      have e : ("Spoilt" : Str) = x := Option.some.inj hx
      rw [← e]
      exact PySem.W.mg_of X G gSpoilt
    | 36, hx =>
      have e : ("BadLine" : Str) = x := Option.some.inj hx
      rw [← e]
      exact PySem.W.mg_of X G gBadLine
    | i + 37, hx => simp [nmsC] at hx
  have TE := txtE_mk (mg := mg) (cs := [c0, c1, c2, c3, c4, c5, c6, c7, c8, c9, c10, c11, c12, c13, c14, c15, c16, c17, c18, c19, c20, c21, c22, c23, c24, c25, c26, c27, c28, c29, c30, c31, c32, c33, c34, c35, c36]) rfl ex hU hcls hkit (PySem.W.mg_of X G g0) gm misinstance mValueError menumerate mrepr mrange mlen many
  have TV : TxtV K mg f1 f2 f3 := ⟨PySem.W.mg_of X G a1, k1, PySem.W.mg_of X G a2, k2, PySem.W.mg_of X G a3, k3, mlen, mrange, mdict, mlist, mzip, mtuple⟩
  have TR : TxtR K mg f4 f5 f6 := ⟨PySem.W.mg_of X G a4, k4, PySem.W.mg_of X G a5, k5, PySem.W.mg_of X G a6, k6⟩
  have TL : TxtL K mg f0 f3 f7 := ⟨PySem.W.mg_of X G a0, k0, PySem.W.mg_of X G a3, k3, PySem.W.mg_of X G a7, k7, mrange, mmax, mmin, mlen⟩
  refine ⟨PySem.W.fnOf "law" "law" (defArgs sLaw) (defBody sLaw) (defScope sLaw) .none kV8 dc8 pm8 an8 cd8 ct8, fun s v => .of_eq rfl, fun base _ _ hs => ?_⟩
  have T0 : Txt mg := ⟨mlen, mabs, mint⟩
  have GP : FnOk l.prog w K mg base CX0 1 f0 _ ["_law_script", "_law_k"] (spPot K) := ok_pot F0 T0
  have GT : FnOk l.prog w K mg base CX0 1 f1 _ ["_law_pot_here", "_law_upto"] spTake := ok_take F1 T0
  have GO : FnOk l.prog w K mg base CX0 2 f2 _ ["_law_pot_here", "_law_some"] spOf := ok_of F2 TV GT b1
  have v0 : FnOk l.prog w K mg base CX0 3 f3 _ ["_law_pot_here", "_law_deep"] (spVal 0) := ok_val_of F3 TV GT b1 GO b2 rest_zero
  have v1 : FnOk l.prog w K mg base CX0 4 f3 _ ["_law_pot_here", "_law_deep"] (spVal 1) := ok_val_of F3 TV GT b1 GO b2 (rest_succ b3 TV GT b1 v0)
  have v2 : FnOk l.prog w K mg base CX0 5 f3 _ ["_law_pot_here", "_law_deep"] (spVal 2) := ok_val_of F3 TV GT b1 GO b2 (rest_succ b3 TV GT b1 v1)
  have v3 : FnOk l.prog w K mg base CX0 6 f3 _ ["_law_pot_here", "_law_deep"] (spVal 3) := ok_val_of F3 TV GT b1 GO b2 (rest_succ b3 TV GT b1 v2)
  have v4 : FnOk l.prog w K mg base CX0 7 f3 _ ["_law_pot_here", "_law_deep"] (spVal 4) := ok_val_of F3 TV GT b1 GO b2 (rest_succ b3 TV GT b1 v3)
  have GM : FnOk l.prog w K mg base CX0 2 f4 _ ["_law_one"] (spMade fun i => ([c0, c1, c2, c3, c4, c5, c6, c7, c8, c9, c10, c11, c12, c13, c14, c15, c16, c17, c18, c19, c20, c21, c22, c23, c24, c25, c26, c27, c28, c29, c30, c31, c32, c33, c34, c35, c36] : List Addr).getD i 0) := ok_made F4 TE
  have GK : FnOk l.prog w K mg base CX0 2 f5 _ ["_law_error"] (spMarks K fI fun i => ([c0, c1, c2, c3, c4, c5, c6, c7, c8, c9, c10, c11, c12, c13, c14, c15, c16, c17, c18, c19, c20, c21, c22, c23, c24, c25, c26, c27, c28, c29, c30, c31, c32, c33, c34, c35, c36] : List Addr).getD i 0) := ok_marks F5 TE
  have GC : FnOk l.prog w K mg base CX0 2 f6 _ ["_law_value_here"] spCaught := ok_caught F6 TE
  have GR : FnOkG l.prog w K mg base 4 f7 _ ["_law_value_here"] spRight := ok_right F7 TE TR GM b4 GK b5 GC b6 hs
  exact ok_law F8 TL GP b0 v4 b3 GR b7
end Kzero
end

section
open PySem PySem.W PyProof.Rows
set_option Elab.async false
set_option maxRecDepth 100000 in
set_option maxHeartbeats 0 in
theorem PySem.Challenge.cw_onlytell_k00_errors_with_any_value_holds : PySem.Challenge.rw_onlytell_k00_errors_with_any_value.Holds := by
  w_on; o_law; k_head; (case hw => w_witness2)
  k_fill
  refine Kzero.walkG (l := PySem.Challenge.rw_onlytell_k00_errors_with_any_value) (n := 63) (k := 8) (x := "_law_script") (sp := Kzero.spLaw) rfl (by decide) rfl ⟨rfl, by decide, by decide⟩ (by kernel_rfl) (fun w h Y => PySem.W.kIn_of Y) ?F (fun K H a ns hl hS => ⟨a, ns, rfl, hS, hl, fun _ => rfl⟩)
  case F =>
    intro w mg fa h KX G hmg
    refine' Kzero.all_mk KX G hmg ?qx_g0 ?qx_gBadBook ?qx_gUnnamed ?qx_gUpward ?qx_gNoDeed ?qx_gBadDeeds ?qx_gBadStore ?qx_gBadRow ?qx_gNoKey ?qx_gGone ?qx_gBadWorth ?qx_gLasting ?qx_gOtherStore ?qx_gBadInput ?qx_gBadMemory ?qx_gBadMachine ?qx_gBadState ?qx_gBadLetter ?qx_gUnlike ?qx_gTooMany ?qx_gBadOffers ?qx_gBadWish ?qx_gBadPrices ?qx_gBadLetters ?qx_gBadRows ?qx_gBadWishes ?qx_gBadKeys ?qx_gBadHands ?qx_gBadSteps ?qx_gBadTelling ?qx_gNoEffect ?qx_gOtherBook ?qx_gStuck ?qx_gBadSwitch ?qx_gOtherPreview ?qx_gShowing ?qx_gSpoilt ?qx_gBadLine ?qx_iI ?qx_tI ?qx_lI ?qx_cI ?qx_hn ?qx_ht ?qx_x0 ?qx_xBadBook ?qx_xUnnamed ?qx_xUpward ?qx_xNoDeed ?qx_xBadDeeds ?qx_xBadStore ?qx_xBadRow ?qx_xNoKey ?qx_xGone ?qx_xBadWorth ?qx_xLasting ?qx_xOtherStore ?qx_xBadInput ?qx_xBadMemory ?qx_xBadMachine ?qx_xBadState ?qx_xBadLetter ?qx_xUnlike ?qx_xTooMany ?qx_xBadOffers ?qx_xBadWish ?qx_xBadPrices ?qx_xBadLetters ?qx_xBadRows ?qx_xBadWishes ?qx_xBadKeys ?qx_xBadHands ?qx_xBadSteps ?qx_xBadTelling ?qx_xNoEffect ?qx_xOtherBook ?qx_xStuck ?qx_xBadSwitch ?qx_xOtherPreview ?qx_xShowing ?qx_xSpoilt ?qx_xBadLine ?qx_hcls ?qx_hkit ?qx_a0 ?qx_l0 ?qx_d0 ?qx_k0 ?qx_a1 ?qx_l1 ?qx_d1 ?qx_k1 ?qx_a2 ?qx_l2 ?qx_d2 ?qx_k2 ?qx_a3 ?qx_l3 ?qx_d3 ?qx_k3 ?qx_a4 ?qx_l4 ?qx_d4 ?qx_k4 ?qx_a5 ?qx_l5 ?qx_d5 ?qx_k5 ?qx_a6 ?qx_l6 ?qx_d6 ?qx_k6 ?qx_a7 ?qx_l7 ?qx_d7 ?qx_k7 ?qx_a8 ?qx_l8 ?qx_d8 ?qx_k8 ?qx_zlen ?qx_zabs ?qx_zint ?qx_zrange ?qx_zdict ?qx_zlist ?qx_zzip ?qx_ztuple ?qx_zisinstance ?qx_zValueError ?qx_zenumerate ?qx_zrepr ?qx_zany ?qx_zmax ?qx_zmin
    (case qx_g0 => k_is)
    (case qx_gBadBook => k_is)
    (case qx_gUnnamed => k_is)
    (case qx_gUpward => k_is)
    (case qx_gNoDeed => k_is)
    (case qx_gBadDeeds => k_is)
    (case qx_gBadStore => k_is)
    (case qx_gBadRow => k_is)
    (case qx_gNoKey => k_is)
    (case qx_gGone => k_is)
    (case qx_gBadWorth => k_is)
    (case qx_gLasting => k_is)
    (case qx_gOtherStore => k_is)
    (case qx_gBadInput => k_is)
    (case qx_gBadMemory => k_is)
    (case qx_gBadMachine => k_is)
    (case qx_gBadState => k_is)
    (case qx_gBadLetter => k_is)
    (case qx_gUnlike => k_is)
    (case qx_gTooMany => k_is)
    (case qx_gBadOffers => k_is)
    (case qx_gBadWish => k_is)
    (case qx_gBadPrices => k_is)
    (case qx_gBadLetters => k_is)
    (case qx_gBadRows => k_is)
    (case qx_gBadWishes => k_is)
    (case qx_gBadKeys => k_is)
    (case qx_gBadHands => k_is)
    (case qx_gBadSteps => k_is)
    (case qx_gBadTelling => k_is)
    (case qx_gNoEffect => k_is)
    (case qx_gOtherBook => k_is)
    (case qx_gStuck => k_is)
    (case qx_gBadSwitch => k_is)
    (case qx_gOtherPreview => k_is)
    (case qx_gShowing => k_is)
    (case qx_gSpoilt => k_is)
    (case qx_gBadLine => k_is)
    (case qx_iI => k_is)
    (case qx_tI => k_is)
    (case qx_lI => k_is)
    (case qx_cI => k_is)
    (case qx_hn => k_is)
    (case qx_ht => k_is)
    (case qx_x0 => refine' Kzero.ex_cls ?qy_x0 ?qz_x0; (case qy_x0 => k_is); (case qz_x0 => rfl))
    (case qx_xBadBook => refine' Kzero.ex_cls ?qy_xBadBook ?qz_xBadBook; (case qy_xBadBook => k_is); (case qz_xBadBook => rfl))
    (case qx_xUnnamed => refine' Kzero.ex_cls ?qy_xUnnamed ?qz_xUnnamed; (case qy_xUnnamed => k_is); (case qz_xUnnamed => rfl))
    (case qx_xUpward => refine' Kzero.ex_cls ?qy_xUpward ?qz_xUpward; (case qy_xUpward => k_is); (case qz_xUpward => rfl))
    (case qx_xNoDeed => refine' Kzero.ex_cls ?qy_xNoDeed ?qz_xNoDeed; (case qy_xNoDeed => k_is); (case qz_xNoDeed => rfl))
    (case qx_xBadDeeds => refine' Kzero.ex_cls ?qy_xBadDeeds ?qz_xBadDeeds; (case qy_xBadDeeds => k_is); (case qz_xBadDeeds => rfl))
    (case qx_xBadStore => refine' Kzero.ex_cls ?qy_xBadStore ?qz_xBadStore; (case qy_xBadStore => k_is); (case qz_xBadStore => rfl))
    (case qx_xBadRow => refine' Kzero.ex_cls ?qy_xBadRow ?qz_xBadRow; (case qy_xBadRow => k_is); (case qz_xBadRow => rfl))
    (case qx_xNoKey => refine' Kzero.ex_cls ?qy_xNoKey ?qz_xNoKey; (case qy_xNoKey => k_is); (case qz_xNoKey => rfl))
    (case qx_xGone => refine' Kzero.ex_cls ?qy_xGone ?qz_xGone; (case qy_xGone => k_is); (case qz_xGone => rfl))
    (case qx_xBadWorth => refine' Kzero.ex_cls ?qy_xBadWorth ?qz_xBadWorth; (case qy_xBadWorth => k_is); (case qz_xBadWorth => rfl))
    (case qx_xLasting => refine' Kzero.ex_cls ?qy_xLasting ?qz_xLasting; (case qy_xLasting => k_is); (case qz_xLasting => rfl))
    (case qx_xOtherStore => refine' Kzero.ex_cls ?qy_xOtherStore ?qz_xOtherStore; (case qy_xOtherStore => k_is); (case qz_xOtherStore => rfl))
    (case qx_xBadInput => refine' Kzero.ex_cls ?qy_xBadInput ?qz_xBadInput; (case qy_xBadInput => k_is); (case qz_xBadInput => rfl))
    (case qx_xBadMemory => refine' Kzero.ex_cls ?qy_xBadMemory ?qz_xBadMemory; (case qy_xBadMemory => k_is); (case qz_xBadMemory => rfl))
    (case qx_xBadMachine => refine' Kzero.ex_cls ?qy_xBadMachine ?qz_xBadMachine; (case qy_xBadMachine => k_is); (case qz_xBadMachine => rfl))
    (case qx_xBadState => refine' Kzero.ex_cls ?qy_xBadState ?qz_xBadState; (case qy_xBadState => k_is); (case qz_xBadState => rfl))
    (case qx_xBadLetter => refine' Kzero.ex_cls ?qy_xBadLetter ?qz_xBadLetter; (case qy_xBadLetter => k_is); (case qz_xBadLetter => rfl))
    (case qx_xUnlike => refine' Kzero.ex_cls ?qy_xUnlike ?qz_xUnlike; (case qy_xUnlike => k_is); (case qz_xUnlike => rfl))
    (case qx_xTooMany => refine' Kzero.ex_cls ?qy_xTooMany ?qz_xTooMany; (case qy_xTooMany => k_is); (case qz_xTooMany => rfl))
    (case qx_xBadOffers => refine' Kzero.ex_cls ?qy_xBadOffers ?qz_xBadOffers; (case qy_xBadOffers => k_is); (case qz_xBadOffers => rfl))
    (case qx_xBadWish => refine' Kzero.ex_cls ?qy_xBadWish ?qz_xBadWish; (case qy_xBadWish => k_is); (case qz_xBadWish => rfl))
    (case qx_xBadPrices => refine' Kzero.ex_cls ?qy_xBadPrices ?qz_xBadPrices; (case qy_xBadPrices => k_is); (case qz_xBadPrices => rfl))
    (case qx_xBadLetters => refine' Kzero.ex_cls ?qy_xBadLetters ?qz_xBadLetters; (case qy_xBadLetters => k_is); (case qz_xBadLetters => rfl))
    (case qx_xBadRows => refine' Kzero.ex_cls ?qy_xBadRows ?qz_xBadRows; (case qy_xBadRows => k_is); (case qz_xBadRows => rfl))
    (case qx_xBadWishes => refine' Kzero.ex_cls ?qy_xBadWishes ?qz_xBadWishes; (case qy_xBadWishes => k_is); (case qz_xBadWishes => rfl))
    (case qx_xBadKeys => refine' Kzero.ex_cls ?qy_xBadKeys ?qz_xBadKeys; (case qy_xBadKeys => k_is); (case qz_xBadKeys => rfl))
    (case qx_xBadHands => refine' Kzero.ex_cls ?qy_xBadHands ?qz_xBadHands; (case qy_xBadHands => k_is); (case qz_xBadHands => rfl))
    (case qx_xBadSteps => refine' Kzero.ex_cls ?qy_xBadSteps ?qz_xBadSteps; (case qy_xBadSteps => k_is); (case qz_xBadSteps => rfl))
    (case qx_xBadTelling => refine' Kzero.ex_cls ?qy_xBadTelling ?qz_xBadTelling; (case qy_xBadTelling => k_is); (case qz_xBadTelling => rfl))
    (case qx_xNoEffect => refine' Kzero.ex_cls ?qy_xNoEffect ?qz_xNoEffect; (case qy_xNoEffect => k_is); (case qz_xNoEffect => rfl))
    (case qx_xOtherBook => refine' Kzero.ex_cls ?qy_xOtherBook ?qz_xOtherBook; (case qy_xOtherBook => k_is); (case qz_xOtherBook => rfl))
    (case qx_xStuck => refine' Kzero.ex_cls ?qy_xStuck ?qz_xStuck; (case qy_xStuck => k_is); (case qz_xStuck => rfl))
    (case qx_xBadSwitch => refine' Kzero.ex_cls ?qy_xBadSwitch ?qz_xBadSwitch; (case qy_xBadSwitch => k_is); (case qz_xBadSwitch => rfl))
    (case qx_xOtherPreview => refine' Kzero.ex_cls ?qy_xOtherPreview ?qz_xOtherPreview; (case qy_xOtherPreview => k_is); (case qz_xOtherPreview => rfl))
    (case qx_xShowing => refine' Kzero.ex_cls ?qy_xShowing ?qz_xShowing; (case qy_xShowing => k_is); (case qz_xShowing => rfl))
    (case qx_xSpoilt => refine' Kzero.ex_cls ?qy_xSpoilt ?qz_xSpoilt; (case qy_xSpoilt => k_is); (case qz_xSpoilt => rfl))
    (case qx_xBadLine => refine' Kzero.ex_cls ?qy_xBadLine ?qz_xBadLine; (case qy_xBadLine => k_is); (case qz_xBadLine => rfl))
    (case qx_hcls => kernel_rfl)
    (case qx_hkit => kernel_rfl)
    (case qx_a0 => k_is)
    (case qx_l0 => k_is)
    (case qx_d0 => k_is)
    (case qx_k0 => k_is)
    (case qx_a1 => k_is)
    (case qx_l1 => k_is)
    (case qx_d1 => k_is)
    (case qx_k1 => k_is)
    (case qx_a2 => k_is)
    (case qx_l2 => k_is)
    (case qx_d2 => k_is)
    (case qx_k2 => k_is)
    (case qx_a3 => k_is)
    (case qx_l3 => k_is)
    (case qx_d3 => k_is)
    (case qx_k3 => k_is)
    (case qx_a4 => k_is)
    (case qx_l4 => k_is)
    (case qx_d4 => k_is)
    (case qx_k4 => k_is)
    (case qx_a5 => k_is)
    (case qx_l5 => k_is)
    (case qx_d5 => k_is)
    (case qx_k5 => k_is)
    (case qx_a6 => k_is)
    (case qx_l6 => k_is)
    (case qx_d6 => k_is)
    (case qx_k6 => k_is)
    (case qx_a7 => k_is)
    (case qx_l7 => k_is)
    (case qx_d7 => k_is)
    (case qx_k7 => k_is)
    (case qx_a8 => k_is)
    (case qx_l8 => k_is)
    (case qx_d8 => k_is)
    (case qx_k8 => k_is)
    (case qx_zlen => k_is)
    (case qx_zabs => k_is)
    (case qx_zint => k_is)
    (case qx_zrange => k_is)
    (case qx_zdict => k_is)
    (case qx_zlist => k_is)
    (case qx_zzip => k_is)
    (case qx_ztuple => k_is)
    (case qx_zisinstance => k_is)
    (case qx_zValueError => k_is)
    (case qx_zenumerate => k_is)
    (case qx_zrepr => k_is)
    (case qx_zany => k_is)
    (case qx_zmax => k_is)
    (case qx_zmin => k_is)
end
