import PyProof.Rows.All
import Wide.All
import OpenK.AllK
import Wide.FinOn
import HandS.Text
import HandS.ForMost
import HandS.Codes
import HandS.More
import HandS.IsInst
import HandS.CallLocal
import HandS.DictComp
import HandS.Walk
import KE.GoesMore
import HandS.ClsMeth
import HandS.GenList
import HandS.Defaults
import HandS.Ends
import PySem.Challenge.RW_leasttiles_k03_runs_of_functions
set_option Elab.async false
set_option maxHeartbeats 4000000
namespace K0
open PySem PyProof.Rows PySem.W
theorem one_pow (W : Nat) : (1 : Int) * 2 ^ ((W : Int)).toNat = 2 ^ W := by
  rw [Int.toNat_natCast, Int.one_mul]
theorem pow_pos (W : Nat) : (0 : Int) < 2 ^ W := Int.pow_pos (by decide)
theorem pow_cast (W : Nat) : ((2 ^ W : Nat) : Int) = 2 ^ W := by
  rw [Int.natCast_pow]; rfl
theorem pow_le16 {W : Nat} (h : W ≤ 16) : (2 : Int) ^ W ≤ 65536 := by
  have h1 : (2 : Nat) ^ W ≤ 2 ^ 16 := Nat.pow_le_pow_right (by decide) h
  have h2 : ((2 ^ W : Nat) : Int) ≤ ((2 ^ 16 : Nat) : Int) := Int.ofNat_le.mpr h1
  rw [pow_cast, pow_cast] at h2
  exact h2
theorem wrap {z S : Int} (h0 : S ≤ z) (h1 : z < S + S) : z % S = z - S := by
  have e : z = (z - S) + S * 1 := by omega
  rw [e, Int.add_mul_emod_self_left, Int.emod_eq_of_lt (by omega) (by omega)]
  omega
theorem wrap' {z S : Int} (h0 : -S ≤ z) (h1 : z < 0) : z % S = z + S := by
  have e : z = (z + S) + S * (-1) := by omega
  rw [e, Int.add_mul_emod_self_left, Int.emod_eq_of_lt (by omega) (by omega)]
  omega
theorem rest_eq (z S : Int) : z - z / S * S = z % S := by
  rw [Int.emod_def, Int.mul_comm]
/-! bits -/
theorem bits_step (n i : Nat) : n % 2 ^ (i + 1) = n % 2 ^ i + n / 2 ^ i % 2 * 2 ^ i := by
  rw [Nat.mod_pow_succ, Nat.mul_comm]
theorem bit_tb (n i : Nat) : n.testBit i = decide (n / 2 ^ i % 2 = 1) := Nat.testBit_eq_decide_div_mod_eq
theorem bit_of (n i : Nat) : n / 2 ^ i % 2 = if n.testBit i then 1 else 0 := by
  rw [bit_tb]
  have := Nat.mod_two_eq_zero_or_one (n / 2 ^ i)
  rcases this with h | h <;> simp [h]
/-- one of the three ops, bit by bit -/
def hit (op : Nat) (both : Int) : Bool := if op = 0 then both == 2 else if op = 1 then decide (0 < both) else both == 1
def bop (op : Nat) (a b : Nat) : Nat := if op = 0 then a &&& b else if op = 1 then a ||| b else a ^^^ b
def both (x y : Int) (i : Nat) : Int := x / 2 ^ i % 2 + y / 2 ^ i % 2
theorem cast_bit (a i : Nat) : ((a : Nat) : Int) / 2 ^ i % 2 = ((a / 2 ^ i % 2 : Nat) : Int) := by
  rw [Int.natCast_emod, Int.natCast_ediv, pow_cast]; rfl
theorem hit_bit (op a b i : Nat) : hit op (both (a : Int) (b : Int) i) = (bop op a b).testBit i := by
  unfold hit both bop
  rw [cast_bit, cast_bit, bit_of, bit_of]
  by_cases h0 : op = 0
  · simp only [h0, if_true]
    rw [Nat.testBit_and]
    cases a.testBit i <;> cases b.testBit i <;> simp
  · by_cases h1 : op = 1
    · subst h1
      rw [if_neg h0, if_neg h0, if_pos rfl, if_pos rfl, Nat.testBit_or]
      cases a.testBit i <;> cases b.testBit i <;> simp
    · rw [if_neg h0, if_neg h0, if_neg h1, if_neg h1, Nat.testBit_xor]
      cases a.testBit i <;> cases b.testBit i <;> simp
theorem hit_step (op a b i : Nat) : ((bop op a b % 2 ^ (i + 1) : Nat) : Int) = if hit op (both (a : Int) (b : Int) i) = true then ((bop op a b % 2 ^ i : Nat) : Int) + 2 ^ i else ((bop op a b % 2 ^ i : Nat) : Int) := by
  rw [bits_step, bit_of, hit_bit]
  by_cases h : (bop op a b).testBit i = true
  · rw [if_pos h, if_pos h, Int.natCast_add, Nat.one_mul, pow_cast]
  · rw [if_neg h, if_neg h, Nat.zero_mul, Nat.add_zero]
theorem bop_lt {op a b W : Nat} (ha : a < 2 ^ W) (hb : b < 2 ^ W) : bop op a b < 2 ^ W := by
  unfold bop
  split
  · exact Nat.and_lt_two_pow a hb
  · split
    · exact Nat.or_lt_two_pow ha hb
    · exact Nat.xor_lt_two_pow ha hb
theorem bop_mod {op a b W : Nat} (ha : a < 2 ^ W) (hb : b < 2 ^ W) : bop op a b % 2 ^ W = bop op a b := Nat.mod_eq_of_lt (bop_lt ha hb)
theorem and_cast (a b : Nat) : Builtin.bitAnd (a : Int) (b : Int) = ((bop 0 a b : Nat) : Int) := by
  rw [bitAnd_pp (Int.natCast_nonneg _) (Int.natCast_nonneg _)]; rfl
theorem or_cast (a b : Nat) : Builtin.bitOr (a : Int) (b : Int) = ((bop 1 a b : Nat) : Int) := by
  rw [Bits.bitOr_pp (Int.natCast_nonneg _) (Int.natCast_nonneg _)]; rfl
theorem xor_cast (a b : Nat) : Builtin.bitXor (a : Int) (b : Int) = ((bop 2 a b : Nat) : Int) := by
  rw [Bits.bitXor_pp (Int.natCast_nonneg _) (Int.natCast_nonneg _)]; rfl
theorem not_cast {a W : Nat} (h : a < 2 ^ W) : Builtin.bitXor (a : Int) (2 ^ W - 1) = 2 ^ W - 1 - (a : Int) := by
  rw [bitXor_and, kbt_mask, Int.emod_eq_of_lt (Int.natCast_nonneg _) (by rw [← pow_cast]; exact Int.ofNat_lt.mpr h)]
  omega
end K0

set_option Elab.async false
set_option linter.all false
set_option maxRecDepth 100000
set_option maxHeartbeats 4000000
namespace K0
open PySem L2
def tp (i : Nat) : Stmt := PySem.Challenge.pw_leasttiles_k03_runs_of_functions.main.body.getD i (.Pass ⟨0, 0, 0, 0⟩)
abbrev sTop : Stmt := tp 4
abbrev sAdd : Stmt := tp 5
abbrev sSub : Stmt := tp 6
abbrev sMul : Stmt := tp 7
abbrev sAnd : Stmt := tp 8
abbrev sOr : Stmt := tp 9
abbrev sXor : Stmt := tp 10
abbrev sShl : Stmt := tp 11
abbrev sShr : Stmt := tp 12
abbrev sLess : Stmt := tp 13
abbrev sEqual : Stmt := tp 14
abbrev sNot : Stmt := tp 15
abbrev sNeg : Stmt := tp 16
abbrev sCompute : Stmt := tp 18
abbrev sSteps : Stmt := tp 20
abbrev sFin : Stmt := tp 21
abbrev sPlay : Stmt := tp 23
abbrev sRunP : Stmt := tp 24
abbrev sTrace : Stmt := tp 25
abbrev sDraw : Stmt := tp 27
abbrev sTake : Stmt := tp 28
abbrev sLTop : Stmt := tp 29
abbrev sLComp : Stmt := tp 30
abbrev sPairs : Stmt := tp 31
abbrev sWord : Stmt := tp 32
abbrev sExpr : Stmt := tp 33
abbrev sStmt : Stmt := tp 34
abbrev sFun : Stmt := tp 35
abbrev sInputs : Stmt := tp 39
abbrev sVal : Stmt := tp 40
abbrev sLRun : Stmt := tp 41
abbrev sLaw : Stmt := tp 42
end K0

set_option Elab.async false
set_option linter.all false
set_option maxRecDepth 100000
set_option maxHeartbeats 4000000
namespace K0
open PySem L2
/-! the answers -/
abbrev G := Nat → Nat → Nat → Int
def gAdd : G := fun W a b => ((a : Int) + b) % 2 ^ W
def gSub : G := fun W a b => ((a : Int) - b) % 2 ^ W
def gMul : G := fun W a b => ((a : Int) * b) % 2 ^ W
def gAnd : G := fun _ a b => ((bop 0 a b : Nat) : Int)
def gOr : G := fun _ a b => ((bop 1 a b : Nat) : Int)
def gXor : G := fun _ a b => ((bop 2 a b : Nat) : Int)
def gShl : G := fun W a b => if (W : Int) ≤ b then 0 else ((a : Int) * 2 ^ b) % 2 ^ W
def gShr : G := fun W a b => if (W : Int) ≤ b then 0 else (a : Int) / 2 ^ b
def gLess : G := fun _ a b => if (a : Int) < b then 1 else 0
def gEqual : G := fun _ a b => if (a : Int) = b then 1 else 0
def gNot : G := fun W a _ => 2 ^ W - 1 - (a : Int)
def gNeg : G := fun W a _ => (-(a : Int)) % 2 ^ W
def ops : List (Str × G) := [("add", gAdd), ("sub", gSub), ("mul", gMul), ("and", gAnd), ("or", gOr), ("xor", gXor), ("shl", gShl), ("shr", gShr), ("less", gLess), ("equal", gEqual), ("not", gNot), ("neg", gNeg)]
theorem ops_nd : (ops.map (·.1)).Nodup := by decide +kernel
theorem pick {op op' : Str} {g g' : G} (h : (op, g) ∈ ops) (k : Nat) (hk : ops[k]? = some (op', g')) (e : op = op') : g = g' := by
  subst e
  obtain ⟨i, hi⟩ := List.mem_iff_getElem?.mp h
  have e1 : (ops.map (·.1))[i]? = some op := by rw [List.getElem?_map, hi]; rfl
  have e2 : (ops.map (·.1))[k]? = some op := by rw [List.getElem?_map, hk]; rfl
  have hik : i = k := nodup_ix ops_nd e1 e2
  subst hik
  rw [hi] at hk
  exact (Prod.mk.inj (Option.some.inj hk)).2
/-! promises -/
def spTop : Sp := fun vs H Q _ => ∃ W : Nat, vs = [.int W] ∧ W ≤ 16 ∧ Q (.int (2 ^ W - 1)) H
def spAct (g : G) : Sp := fun vs H Q _ => ∃ W a b : Nat, vs = [.int W, .int a, .int b] ∧ 1 ≤ W ∧ W ≤ 16 ∧ a < 2 ^ W ∧ b < 2 ^ W ∧ Q (.int (g W a b)) H
section
variable {P : Program} {w : World} {K : PySem.W.Frag} {mg : Str → Option Value} {base : Heap}
theorem scTop : FnScope ["w"] ["w"] (defScope sTop) := ⟨rfl, rfl, rfl, by decide +kernel, rfl, by decide +kernel, by decide +kernel⟩
theorem ok_top {f : Addr} {fd : FuncData} (F : Fun K "top" "top" sTop f fd) : FnOk P w K mg base CX0 1 f fd ["w"] spTop := by
  refine F.ok scTop (fun vs H Q E h => ?_) (fun cdv A outer s H vs Q E hr h => ?_)
  · obtain ⟨W, rfl, _⟩ := h
    rfl
  · obtain ⟨W, rfl, hW, q⟩ := h
    refine ⟨_, pss_one (ps_ret (pe_op op_sub (pe_op op_shl pe_int (pv 0)) pe_int)), ?_⟩
    refine ⟨_, rfl, 1, W, rfl, rfl, ⟨by omega, by omega, by decide⟩, _, _, rfl, rfl, ?_⟩
    rw [one_pow]
    exact q
theorem scLTop : FnScope ["w"] ["w"] (defScope sLTop) := ⟨rfl, rfl, rfl, by decide +kernel, rfl, by decide +kernel, by decide +kernel⟩
theorem ok_ltop {f : Addr} {fd : FuncData} (F : Fun K "_law_top" "_law_top" sLTop f fd) : FnOk P w K mg base CX0 1 f fd ["w"] spTop := by
  refine F.ok scLTop (fun vs H Q E h => ?_) (fun cdv A outer s H vs Q E hr h => ?_)
  · obtain ⟨W, rfl, _⟩ := h
    rfl
  · obtain ⟨W, rfl, hW, q⟩ := h
    refine ⟨_, pss_one (ps_ret (pe_op op_sub (pe_op op_shl pe_int (pv 0)) pe_int)), ?_⟩
    refine ⟨_, rfl, 1, W, rfl, rfl, ⟨by omega, by omega, by decide⟩, _, _, rfl, rfl, ?_⟩
    rw [one_pow]
    exact q
theorem scAdd : FnScope ["w", "x", "y"] ["w", "x", "y"] (defScope sAdd) := ⟨rfl, rfl, rfl, by decide +kernel, rfl, by decide +kernel, by decide +kernel⟩
theorem scSub : FnScope ["w", "x", "y"] ["w", "x", "y"] (defScope sSub) := ⟨rfl, rfl, rfl, by decide +kernel, rfl, by decide +kernel, by decide +kernel⟩
theorem scMul : FnScope ["w", "x", "y"] ["w", "x", "y"] (defScope sMul) := ⟨rfl, rfl, rfl, by decide +kernel, rfl, by decide +kernel, by decide +kernel⟩
theorem scAnd : FnScope ["_", "x", "y"] ["_", "x", "y"] (defScope sAnd) := ⟨rfl, rfl, rfl, by decide +kernel, rfl, by decide +kernel, by decide +kernel⟩
theorem scOr : FnScope ["_", "x", "y"] ["_", "x", "y"] (defScope sOr) := ⟨rfl, rfl, rfl, by decide +kernel, rfl, by decide +kernel, by decide +kernel⟩
theorem scXor : FnScope ["_", "x", "y"] ["_", "x", "y"] (defScope sXor) := ⟨rfl, rfl, rfl, by decide +kernel, rfl, by decide +kernel, by decide +kernel⟩
theorem scShl : FnScope ["w", "x", "y"] ["w", "x", "y"] (defScope sShl) := ⟨rfl, rfl, rfl, by decide +kernel, rfl, by decide +kernel, by decide +kernel⟩
theorem scShr : FnScope ["w", "x", "y"] ["w", "x", "y"] (defScope sShr) := ⟨rfl, rfl, rfl, by decide +kernel, rfl, by decide +kernel, by decide +kernel⟩
theorem scLess : FnScope ["_", "x", "y"] ["_", "x", "y"] (defScope sLess) := ⟨rfl, rfl, rfl, by decide +kernel, rfl, by decide +kernel, by decide +kernel⟩
theorem scEqual : FnScope ["_", "x", "y"] ["_", "x", "y"] (defScope sEqual) := ⟨rfl, rfl, rfl, by decide +kernel, rfl, by decide +kernel, by decide +kernel⟩
theorem scNot : FnScope ["w", "x", "_"] ["w", "x", "_"] (defScope sNot) := ⟨rfl, rfl, rfl, by decide +kernel, rfl, by decide +kernel, by decide +kernel⟩
theorem scNeg : FnScope ["w", "x", "_"] ["w", "x", "_"] (defScope sNeg) := ⟨rfl, rfl, rfl, by decide +kernel, rfl, by decide +kernel, by decide +kernel⟩
/-- top as it is called -/
structure TopF (P : Program) (w : World) (K : PySem.W.Frag) (mg : Str → Option Value) (base : Heap) (x : Str) : Prop where
  ex : ∃ (f : Addr) (fd : FuncData), FnOk P w K mg base CX0 1 f fd ["w"] spTop ∧ mg x = some (.ref f) ∧ PySem.W.keepIn K (.ref f) = true ∧ Binds K fd ["w"] []
section
variable (T : TopF P w K mg base "top")
include T
theorem ok_add {f : Addr} {fd : FuncData} (F : Fun K "_add" "_add" sAdd f fd) : FnOk P w K mg base CX0 2 f fd ["w", "x", "y"] (spAct gAdd) := by
  obtain ⟨ft, fdt, GT, mgT, kT, bT⟩ := T.ex
  refine F.ok scAdd (fun vs H Q E h => ?_) (fun cdv A outer s H vs Q E hr h => ?_)
  · obtain ⟨W, a, b, rfl, _⟩ := h
    rfl
  · obtain ⟨W, a, b, rfl, h1, hW, ha, hb, q⟩ := h
    refine ⟨_, pss_one (ps_ret (pe_op op_and (pe_op op_add (pv 1) (pv 2)) (pe_call GT hr (by rfl) mgT kT bT .nil pass0 (pa_cons (pv 0) pa_nil)))), ?_⟩
    refine ⟨_, rfl, _, rfl, a, b, rfl, rfl, _, rfl, W, rfl, hW, _, _, rfl, rfl, ?_⟩
    show Q (V.int (Builtin.bitAnd _ _)) H
    rw [PySem.W.kbt_mask]
    exact q
theorem ok_sub {f : Addr} {fd : FuncData} (F : Fun K "_sub" "_sub" sSub f fd) : FnOk P w K mg base CX0 2 f fd ["w", "x", "y"] (spAct gSub) := by
  obtain ⟨ft, fdt, GT, mgT, kT, bT⟩ := T.ex
  refine F.ok scSub (fun vs H Q E h => ?_) (fun cdv A outer s H vs Q E hr h => ?_)
  · obtain ⟨W, a, b, rfl, _⟩ := h
    rfl
  · obtain ⟨W, a, b, rfl, h1, hW, ha, hb, q⟩ := h
    refine ⟨_, pss_one (ps_ret (pe_op op_and (pe_op op_sub (pv 1) (pv 2)) (pe_call GT hr (by rfl) mgT kT bT .nil pass0 (pa_cons (pv 0) pa_nil)))), ?_⟩
    refine ⟨_, rfl, _, rfl, a, b, rfl, rfl, _, rfl, W, rfl, hW, _, _, rfl, rfl, ?_⟩
    show Q (V.int (Builtin.bitAnd _ _)) H
    rw [PySem.W.kbt_mask]
    exact q
theorem below {a W : Nat} (h : a < 2 ^ W) (hW : W ≤ 16) : (a : Int) < 65536 := by
  have h1 : (2 : Nat) ^ W ≤ 2 ^ 16 := Nat.pow_le_pow_right (by decide) hW
  have h2 : (2 : Nat) ^ 16 = 65536 := by decide
  omega
theorem ok_mul {f : Addr} {fd : FuncData} (F : Fun K "_mul" "_mul" sMul f fd) : FnOk P w K mg base CX0 2 f fd ["w", "x", "y"] (spAct gMul) := by
  obtain ⟨ft, fdt, GT, mgT, kT, bT⟩ := T.ex
  refine F.ok scMul (fun vs H Q E h => ?_) (fun cdv A outer s H vs Q E hr h => ?_)
  · obtain ⟨W, a, b, rfl, _⟩ := h
    rfl
  · obtain ⟨W, a, b, rfl, h1, hW, ha, hb, q⟩ := h
    have la := below T ha hW
    refine ⟨_, pss_one (ps_ret (pe_op op_and (pe_op op_mul (pv 1) (pv 2)) (pe_call GT hr (by rfl) mgT kT bT .nil pass0 (pa_cons (pv 0) pa_nil)))), ?_⟩
    refine ⟨_, rfl, _, rfl, a, b, rfl, rfl, .inl ⟨by omega, by omega⟩, _, rfl, W, rfl, hW, _, _, rfl, rfl, ?_⟩
    show Q (V.int (Builtin.bitAnd _ _)) H
    rw [PySem.W.kbt_mask]
    exact q
theorem ok_not {f : Addr} {fd : FuncData} (F : Fun K "_not" "_not" sNot f fd) : FnOk P w K mg base CX0 2 f fd ["w", "x", "_"] (spAct gNot) := by
  obtain ⟨ft, fdt, GT, mgT, kT, bT⟩ := T.ex
  refine F.ok scNot (fun vs H Q E h => ?_) (fun cdv A outer s H vs Q E hr h => ?_)
  · obtain ⟨W, a, b, rfl, _⟩ := h
    rfl
  · obtain ⟨W, a, b, rfl, h1, hW, ha, hb, q⟩ := h
    refine ⟨_, pss_one (ps_ret (pe_op op_xor (pv 1) (pe_call GT hr (by rfl) mgT kT bT .nil pass0 (pa_cons (pv 0) pa_nil)))), ?_⟩
    refine ⟨_, rfl, _, rfl, W, rfl, hW, _, _, rfl, rfl, ?_⟩
    show Q (V.int (Builtin.bitXor _ _)) H
    rw [not_cast ha]
    exact q
theorem ok_neg {f : Addr} {fd : FuncData} (F : Fun K "_neg" "_neg" sNeg f fd) : FnOk P w K mg base CX0 2 f fd ["w", "x", "_"] (spAct gNeg) := by
  obtain ⟨ft, fdt, GT, mgT, kT, bT⟩ := T.ex
  refine F.ok scNeg (fun vs H Q E h => ?_) (fun cdv A outer s H vs Q E hr h => ?_)
  · obtain ⟨W, a, b, rfl, _⟩ := h
    rfl
  · obtain ⟨W, a, b, rfl, h1, hW, ha, hb, q⟩ := h
    refine ⟨_, pss_one (ps_ret (pe_op op_and (pe_un un_neg (pv 1)) (pe_call GT hr (by rfl) mgT kT bT .nil pass0 (pa_cons (pv 0) pa_nil)))), ?_⟩
    refine ⟨_, rfl, _, rfl, _, rfl, W, rfl, hW, _, _, rfl, rfl, ?_⟩
    show Q (V.int (Builtin.bitAnd _ _)) H
    rw [PySem.W.kbt_mask]
    exact q
theorem ok_shl {f : Addr} {fd : FuncData} (F : Fun K "_shl" "_shl" sShl f fd) : FnOk P w K mg base CX0 2 f fd ["w", "x", "y"] (spAct gShl) := by
  obtain ⟨ft, fdt, GT, mgT, kT, bT⟩ := T.ex
  refine F.ok scShl (fun vs H Q E h => ?_) (fun cdv A outer s H vs Q E hr h => ?_)
  · obtain ⟨W, a, b, rfl, _⟩ := h
    rfl
  · obtain ⟨W, a, b, rfl, h1, hW, ha, hb, q⟩ := h
    have la := below T ha hW
    have lb := below T hb hW
    refine ⟨_, pss_cons (ps_if (pt_cmpR op_ge (pv 2) (pv 0) (nomark _)) (pss_one (ps_ret pe_int)) pss_nil)
      (pss_one (ps_ret (pe_op op_and (pe_op op_shl (pv 1) (pv 2)) (pe_call GT hr (by rfl) mgT kT bT .nil pass0 (pa_cons (pv 0) pa_nil))))), ?_⟩
    refine ⟨_, rfl, _, rfl, b, W, rfl, rfl, _, rfl, ite2 (fun e => ?_) (fun e => ?_)⟩
    · have e' := of_decide_eq_true e
      unfold gShl at q
      rw [if_pos e'] at q
      exact q
    · have e' : ¬ ((W : Int) ≤ b) := fun z => e (decide_eq_true z)
      refine ⟨_, rfl, _, rfl, a, b, rfl, rfl, ⟨by omega, by omega, by omega⟩, _, rfl, W, rfl, hW, _, _, rfl, rfl, ?_⟩
      show Q (V.int (Builtin.bitAnd _ _)) H
      rw [PySem.W.kbt_mask, Int.toNat_natCast]
      unfold gShl at q
      rw [if_neg e'] at q
      exact q
end
theorem ok_and {f : Addr} {fd : FuncData} (F : Fun K "_and" "_and" sAnd f fd) : FnOk P w K mg base CX0 2 f fd ["_", "x", "y"] (spAct gAnd) := by
  refine F.ok scAnd (fun vs H Q E h => ?_) (fun cdv A outer s H vs Q E hr h => ?_)
  · obtain ⟨W, a, b, rfl, _⟩ := h
    rfl
  · obtain ⟨W, a, b, rfl, h1, hW, ha, hb, q⟩ := h
    refine ⟨_, pss_one (ps_ret (pe_op op_and (pv 1) (pv 2))), ?_⟩
    refine ⟨_, rfl, _, rfl, a, b, rfl, rfl, ?_⟩
    show Q (V.int (Builtin.bitAnd _ _)) H
    rw [and_cast]
    exact q
theorem ok_or {f : Addr} {fd : FuncData} (F : Fun K "_or" "_or" sOr f fd) : FnOk P w K mg base CX0 2 f fd ["_", "x", "y"] (spAct gOr) := by
  refine F.ok scOr (fun vs H Q E h => ?_) (fun cdv A outer s H vs Q E hr h => ?_)
  · obtain ⟨W, a, b, rfl, _⟩ := h
    rfl
  · obtain ⟨W, a, b, rfl, h1, hW, ha, hb, q⟩ := h
    refine ⟨_, pss_one (ps_ret (pe_op op_or (pv 1) (pv 2))), ?_⟩
    refine ⟨_, rfl, _, rfl, a, b, rfl, rfl, ?_⟩
    show Q (V.int (Builtin.bitOr _ _)) H
    rw [or_cast]
    exact q
theorem ok_xor {f : Addr} {fd : FuncData} (F : Fun K "_xor" "_xor" sXor f fd) : FnOk P w K mg base CX0 2 f fd ["_", "x", "y"] (spAct gXor) := by
  refine F.ok scXor (fun vs H Q E h => ?_) (fun cdv A outer s H vs Q E hr h => ?_)
  · obtain ⟨W, a, b, rfl, _⟩ := h
    rfl
  · obtain ⟨W, a, b, rfl, h1, hW, ha, hb, q⟩ := h
    refine ⟨_, pss_one (ps_ret (pe_op op_xor (pv 1) (pv 2))), ?_⟩
    refine ⟨_, rfl, _, rfl, a, b, rfl, rfl, ?_⟩
    show Q (V.int (Builtin.bitXor _ _)) H
    rw [xor_cast]
    exact q
theorem ok_shr {f : Addr} {fd : FuncData} (F : Fun K "_shr" "_shr" sShr f fd) : FnOk P w K mg base CX0 2 f fd ["w", "x", "y"] (spAct gShr) := by
  refine F.ok scShr (fun vs H Q E h => ?_) (fun cdv A outer s H vs Q E hr h => ?_)
  · obtain ⟨W, a, b, rfl, _⟩ := h
    rfl
  · obtain ⟨W, a, b, rfl, h1, hW, ha, hb, q⟩ := h
    refine ⟨_, pss_cons (ps_if (pt_cmpR op_ge (pv 2) (pv 0) (nomark _)) (pss_one (ps_ret pe_int)) pss_nil)
      (pss_one (ps_ret (pe_op op_shr (pv 1) (pv 2)))), ?_⟩
    refine ⟨_, rfl, _, rfl, b, W, rfl, rfl, _, rfl, ite2 (fun e => ?_) (fun e => ?_)⟩
    · have e' := of_decide_eq_true e
      unfold gShr at q
      rw [if_pos e'] at q
      exact q
    · have e' : ¬ ((W : Int) ≤ b) := fun z => e (decide_eq_true z)
      refine ⟨_, rfl, _, rfl, a, b, rfl, rfl, by omega, ?_⟩
      show Q (V.int ((a : Int) / 2 ^ ((b : Int)).toNat)) H
      rw [Int.toNat_natCast]
      unfold gShr at q
      rw [if_neg e'] at q
      exact q
theorem ok_less {f : Addr} {fd : FuncData} (F : Fun K "_less" "_less" sLess f fd) : FnOk P w K mg base CX0 2 f fd ["_", "x", "y"] (spAct gLess) := by
  refine F.ok scLess (fun vs H Q E h => ?_) (fun cdv A outer s H vs Q E hr h => ?_)
  · obtain ⟨W, a, b, rfl, _⟩ := h
    rfl
  · obtain ⟨W, a, b, rfl, h1, hW, ha, hb, q⟩ := h
    refine ⟨_, pss_one (ps_ret (pe_ifExp (pt_cmpR op_lt (pv 1) (pv 2) (nomark _)) pe_int pe_int)), ?_⟩
    refine ⟨_, rfl, _, rfl, a, b, rfl, rfl, _, rfl, ite2 (fun e => ?_) (fun e => ?_)⟩
    · have e' := of_decide_eq_true e
      unfold gLess at q
      rw [if_pos e'] at q
      exact q
    · have e' : ¬ ((a : Int) < b) := fun z => e (decide_eq_true z)
      unfold gLess at q
      rw [if_neg e'] at q
      exact q
theorem ok_equal {f : Addr} {fd : FuncData} (F : Fun K "_equal" "_equal" sEqual f fd) : FnOk P w K mg base CX0 2 f fd ["_", "x", "y"] (spAct gEqual) := by
  refine F.ok scEqual (fun vs H Q E h => ?_) (fun cdv A outer s H vs Q E hr h => ?_)
  · obtain ⟨W, a, b, rfl, _⟩ := h
    rfl
  · obtain ⟨W, a, b, rfl, h1, hW, ha, hb, q⟩ := h
    refine ⟨_, pss_one (ps_ret (pe_ifExp (pt_cmpR op_eq (pv 1) (pv 2) (nomark _)) pe_int pe_int)), ?_⟩
    refine ⟨_, rfl, _, rfl, rfl, _, rfl, ite2 (fun e => ?_) (fun e => ?_)⟩
    · have e' : (a : Int) = b := V.int.inj (of_decide_eq_true e)
      unfold gEqual at q
      rw [if_pos e'] at q
      exact q
    · have e' : ¬ ((a : Int) = b) := fun z => e (decide_eq_true (by rw [z]))
      unfold gEqual at q
      rw [if_neg e'] at q
      exact q
end
end K0

set_option Elab.async false
set_option linter.all false
set_option maxRecDepth 100000
set_option maxHeartbeats 4000000
namespace K0
open PySem L2
theorem and_val {A B : TT} {σ : St} {H : Hp} {cA cB : Bool} (hA : ∀ Q : Bool → Hp → Prop, Q cA H → A σ H Q) (hB : ∀ Q : Bool → Hp → Prop, Q cB H → B σ H Q) : ∀ Q : Bool → Hp → Prop, Q (cA && cB) H → tAnd A B σ H Q := by
  intro Q q
  refine hA _ ?_
  cases cA with
  | true => exact iteT (hB _ q)
  | false => exact iteF q
theorem or_val {A B : TT} {σ : St} {H : Hp} {cA cB : Bool} (hA : ∀ Q : Bool → Hp → Prop, Q cA H → A σ H Q) (hB : ∀ Q : Bool → Hp → Prop, Q cB H → B σ H Q) : ∀ Q : Bool → Hp → Prop, Q (cA || cB) H → tOr A B σ H Q := by
  intro Q q
  refine hA _ ?_
  cases cA with
  | true => exact iteT q
  | false => exact iteF (hB _ q)
theorem str_of {a b : Str} (e : decide (V.str a = V.str b) = true) : a = b := V.str.inj (of_decide_eq_true e)
theorem str_ne {a b : Str} (e : ¬ decide (V.str a = V.str b) = true) : a ≠ b := fun z => e (decide_eq_true (by rw [z]))
/-- the three ops that go bit by bit -/
def Bitwise (op : Str) (c : Nat) : Prop := (op = "and" ∧ c = 0) ∨ (op = "or" ∧ c = 1) ∨ (op = "xor" ∧ c = 2)
theorem n1 : ¬ ("and" : Str) = "or" := by decide +kernel
theorem n2 : ¬ ("and" : Str) = "xor" := by decide +kernel
theorem n3 : ¬ ("or" : Str) = "xor" := by decide +kernel
theorem dS {a b : Str} (h : ¬ a = b) : decide (V.str a = V.str b) = false := decide_eq_false fun z => h (V.str.inj z)
theorem dT {a : Str} : decide (V.str a = V.str a) = true := decide_eq_true rfl
theorem dI {i j : Int} : decide (V.int i = V.int j) = (i == j) := dec_int
theorem hit_val {op : Str} {c : Nat} (h : Bitwise op c) (z : Int) :
    ((decide (V.str op = V.str "and") && decide (V.int z = V.int 2)) || ((decide (V.str op = V.str "or") && decide ((0 : Int) < z)) || (decide (V.str op = V.str "xor") && decide (V.int z = V.int 1)))) = hit c z := by
  rcases h with ⟨rfl, rfl⟩ | ⟨rfl, rfl⟩ | ⟨rfl, rfl⟩
  · rw [dT, dS n1, dS n2, dI]
    simp [hit]
  · rw [dT, dS n3, dS (fun q => n1 q.symm)]
    simp [hit]
  · rw [dT, dS (fun q => n2 q.symm), dS (fun q => n3 q.symm), dI]
    simp [hit]
    rfl
theorem bit_ops {op : Str} {g : G} (h : (op, g) ∈ ops) (e : inV (.str op) [.str "and", .str "or", .str "xor"] = true) : ∃ c, Bitwise op c ∧ g = fun _ a b => ((bop c a b : Nat) : Int) := by
  have e' : op = "and" ∨ op = "or" ∨ op = "xor" := by
    have q : (("and" : Str) == op || (("or" : Str) == op || (("xor" : Str) == op || false))) = true := e
    simp only [Bool.or_eq_true, beq_iff_eq, Bool.false_eq_true, or_false] at q
    rcases q with q | q | q
    · exact .inl q.symm
    · exact .inr (.inl q.symm)
    · exact .inr (.inr q.symm)
  rcases e' with q | q | q
  · exact ⟨0, .inl ⟨q, rfl⟩, pick h 3 rfl q⟩
  · exact ⟨1, .inr (.inl ⟨q, rfl⟩), pick h 4 rfl q⟩
  · exact ⟨2, .inr (.inr ⟨q, rfl⟩), pick h 5 rfl q⟩
/-! arithmetic of the answers -/
theorem wlt {a W : Nat} (h : a < 2 ^ W) : (a : Int) < 2 ^ W := by
  rw [← pow_cast]
  exact Int.ofNat_lt.mpr h
theorem add_lo {W a b : Nat} (h : (a : Int) + b < 2 ^ W) : gAdd W a b = (a : Int) + b := Int.emod_eq_of_lt (by omega) h
theorem add_hi {W a b : Nat} (ha : a < 2 ^ W) (hb : b < 2 ^ W) (h : ¬ (a : Int) + b < 2 ^ W) : gAdd W a b = (a : Int) + b - 2 ^ W := by
  have h1 := wlt ha
  have h2 := wlt hb
  exact wrap (by omega) (by omega)
theorem sub_hi {W a b : Nat} (ha : a < 2 ^ W) (h : (b : Int) ≤ a) : gSub W a b = (a : Int) - b := by
  have h1 := wlt ha
  exact Int.emod_eq_of_lt (by omega) (by omega)
theorem sub_lo {W a b : Nat} (hb : b < 2 ^ W) (h : ¬ (b : Int) ≤ a) : gSub W a b = (a : Int) - b + 2 ^ W := by
  have h2 := wlt hb
  exact wrap' (by omega) (by omega)
theorem neg_0 {W a : Nat} (h : (a : Int) = 0) (b : Nat) : gNeg W a b = 0 := by
  unfold gNeg
  rw [h]
  exact Int.zero_emod _
theorem neg_1 {W a : Nat} (ha : a < 2 ^ W) (h : ¬ (a : Int) = 0) (b : Nat) : gNeg W a b = 2 ^ W - (a : Int) := by
  have h1 := wlt ha
  have e : gNeg W a b = -(a : Int) + 2 ^ W := wrap' (by omega) (by omega)
  omega
def spLC : Sp := fun vs H Q _ => ∃ (op : Str) (g : G) (W a b : Nat), vs = [.str op, .int W, .int a, .int b] ∧ (op, g) ∈ ops ∧ 1 ≤ W ∧ W ≤ 16 ∧ a < 2 ^ W ∧ b < 2 ^ W ∧ ∀ H', Same H H' → Q (.int (g W a b)) H'
theorem last_neg {op : Str} {g : G} (h : (op, g) ∈ ops) (h0 : op ≠ "add") (h1 : op ≠ "sub") (h2 : op ≠ "mul") (h3 : ¬ inV (.str op) [.str "and", .str "or", .str "xor"] = true) (h6 : op ≠ "shl") (h7 : op ≠ "shr") (h8 : op ≠ "less") (h9 : op ≠ "equal") (h10 : op ≠ "not") : g = gNeg := by
  have e : op = "neg" := by
    have q := List.mem_map_of_mem (f := (·.1)) h
    have q2 : op ∈ (["add", "sub", "mul", "and", "or", "xor", "shl", "shr", "less", "equal", "not", "neg"] : List Str) := q
    simp only [List.mem_cons, List.not_mem_nil, or_false] at q2
    rcases q2 with q | q | q | q | q | q | q | q | q | q | q | q
    · exact absurd q h0
    · exact absurd q h1
    · exact absurd q h2
    · subst q; exact absurd (by decide +kernel) h3
    · subst q; exact absurd (by decide +kernel) h3
    · subst q; exact absurd (by decide +kernel) h3
    · exact absurd q h6
    · exact absurd q h7
    · exact absurd q h8
    · exact absurd q h9
    · exact absurd q h10
    · exact q
  exact pick h 11 rfl e
end K0

set_option Elab.async false
set_option linter.all false
set_option maxRecDepth 100000
set_option maxHeartbeats 400000
namespace K0
open PySem L2
theorem gName_go {i : Nat} {v : V} {σ : St} {H : Hp} {Q : St → Hp → Prop} (h : Q (σ.set i (some v)) H) : gName i v σ H Q := h
theorem nx_go {t : St → Hp → Prop} {r : VK} {b c : St → Hp → Prop} {σ : St} {H : Hp} (h : t σ H) : ({ nx := t, rt := r, bk := b, ct := c } : Ends).nx σ H := h
theorem tIfS_val {c : TT} {t u : TS} {D : Ends} {σ : St} {H : Hp} {b : Bool} (hc : ∀ Q : Bool → Hp → Prop, Q b H → c σ H Q) (h : if b = true then t D σ H else u D σ H) : tIfS c t u D σ H := hc _ h
theorem op_shl1 {X : Cx} : OpR X (binaryOp .LShift) (fun x y H Q => ∃ W : Nat, x = .int 1 ∧ y = .int W ∧ W ≤ 16 ∧ Q (.int (2 ^ W)) H) := by
  intro pins s σ H x y v u Q I rx ry h
  obtain ⟨W, e1, e2, hW, q⟩ := h
  refine op_shl pins s σ H x y v u Q I rx ry ⟨1, W, e1, e2, ⟨by omega, by omega, by decide⟩, ?_⟩
  show Q (.int (1 * 2 ^ ((W : Int)).toNat)) H
  rw [one_pow]
  exact q
section
variable {P : Program} {w : World} {K : PySem.W.Frag} {mg : Str → Option Value} {base : Heap}
theorem scLC : FnScope ["op", "w", "x", "y", "size", "found", "k", "both"] ["op", "w", "x", "y"] (defScope sLComp) := ⟨rfl, rfl, rfl, by decide +kernel, rfl, by decide +kernel, by decide +kernel⟩
theorem ok_lc {f : Addr} {fd : FuncData} (F : Fun K "_law_compute" "_law_compute" sLComp f fd) (mr : mg "range" = none) : FnOk P w K mg base CX0 1 f fd ["op", "w", "x", "y"] spLC := by
  refine F.ok scLC (fun vs H Q E h => ?_) (fun cdv A outer s H vs Q E hr h => ?_)
  · obtain ⟨op, g, W, a, b, rfl, _⟩ := h
    rfl
  · obtain ⟨op, g, W, a, b, rfl, ho, h1, hW, ha, hb, q⟩ := h
    have qs := q H (Same.refl H)
    have la := wlt ha
    have lb := wlt hb
    have l16 := pow_le16 hW
    have lp := pow_pos W
    have nd := scLC.nd
    refine ⟨_, pss_cons (ps_set (i := 4) nd rfl (.inl rfl) (pe_op op_shl1 pe_int (pv 1)))
      (pss_cons (ps_if (pt_cmpR op_eq (pv 0) pe_str (nomark _)) (pss_one (ps_ret (pe_ifExp (pt_cmpR op_lt (pe_op op_add (pv 2) (pv 3)) (pv 4) (nomark _)) (pe_op op_add (pv 2) (pv 3)) (pe_op op_sub (pe_op op_add (pv 2) (pv 3)) (pv 4))))) pss_nil)
      (pss_cons (ps_if (pt_cmpR op_eq (pv 0) pe_str (nomark _)) (pss_one (ps_ret (pe_ifExp (pt_cmpR op_ge (pv 2) (pv 3) (nomark _)) (pe_op op_sub (pv 2) (pv 3)) (pe_op op_add (pe_op op_sub (pv 2) (pv 3)) (pv 4))))) pss_nil)
      (pss_cons (ps_if (pt_cmpR op_eq (pv 0) pe_str (nomark _)) (pss_one (ps_ret (pe_op op_sub (pe_op op_mul (pv 2) (pv 3)) (pe_op op_mul (pe_op op_fdiv (pe_op op_mul (pv 2) (pv 3)) (pv 4)) (pv 4))))) pss_nil)
      (pss_cons (ps_if (pt_cmpR op_in_seq (pv 0) (pe_lst (pa_cons pe_str (pa_cons pe_str (pa_cons pe_str pa_nil)))) rfl)
        (pss_cons (ps_set (i := 5) nd rfl (.inl rfl) pe_int)
        (pss_cons (ps_for PassesOwn.never rfl (pi_range1 (by rfl) mr (pa_cons (pv 1) pa_nil)) (pg_name (i := 6) nd rfl (.inl rfl))
          (pss_cons (ps_set (i := 7) nd rfl (.inl rfl) (pe_op op_add (pe_op op_mod (pe_op op_fdiv (pv 2) (pe_op op_shl1 pe_int (pv 6))) pe_int) (pe_op op_mod (pe_op op_fdiv (pv 3) (pe_op op_shl1 pe_int (pv 6))) pe_int)))
          (pss_one (ps_if (PW.pt (pw_or (PW.pt (pw_and (pt_cmpR op_eq (pv 0) pe_str (nomark _)) (pw_and1 (pt_cmpR op_eq (pv 7) pe_int (nomark _)))))
              (pw_or (PW.pt (pw_and (pt_cmpR op_eq (pv 0) pe_str (nomark _)) (pw_and1 (pt_cmpR op_gt (pv 7) pe_int (nomark _)))))
              (pw_or1 (PW.pt (pw_and (pt_cmpR op_eq (pv 0) pe_str (nomark _)) (pw_and1 (pt_cmpR op_eq (pv 7) pe_int (nomark _)))))))))
            (pss_one (ps_set (i := 5) nd rfl (.inl rfl) (pe_op op_add (pv 5) (pe_op op_shl1 pe_int (pv 6))))) pss_nil))))
        (pss_one (ps_ret (pv 5))))) pss_nil)
      (pss_cons (ps_if (pt_cmpR op_eq (pv 0) pe_str (nomark _)) (pss_one (ps_ret (pe_ifExp (pt_cmpR op_ge (pv 3) (pv 1) (nomark _)) pe_int (pe_op op_sub (pe_op op_mul (pv 2) (pe_op op_shl1 pe_int (pv 3))) (pe_op op_mul (pe_op op_fdiv (pe_op op_mul (pv 2) (pe_op op_shl1 pe_int (pv 3))) (pv 4)) (pv 4)))))) pss_nil)
      (pss_cons (ps_if (pt_cmpR op_eq (pv 0) pe_str (nomark _)) (pss_one (ps_ret (pe_ifExp (pt_cmpR op_ge (pv 3) (pv 1) (nomark _)) pe_int (pe_op op_fdiv (pv 2) (pe_op op_shl1 pe_int (pv 3)))))) pss_nil)
      (pss_cons (ps_if (pt_cmpR op_eq (pv 0) pe_str (nomark _)) (pss_one (ps_ret (pe_ifExp (pt_cmpR op_lt (pv 2) (pv 3) (nomark _)) pe_int pe_int))) pss_nil)
      (pss_cons (ps_if (pt_cmpR op_eq (pv 0) pe_str (nomark _)) (pss_one (ps_ret (pe_ifExp (pt_cmpR op_eq (pv 2) (pv 3) (nomark _)) pe_int pe_int))) pss_nil)
      (pss_cons (ps_if (pt_cmpR op_eq (pv 0) pe_str (nomark _)) (pss_one (ps_ret (pe_op op_sub (pe_op op_sub (pv 4) pe_int) (pv 2)))) pss_nil)
      (pss_one (ps_ret (pe_ifExp (pt_cmpR op_eq (pv 2) pe_int (nomark _)) pe_int (pe_op op_sub (pv 4) (pv 2)))))))))))))), ?_⟩
    -- size = 1 << w
    refine ⟨_, rfl, W, rfl, rfl, hW, ?_⟩
    -- add
    refine ⟨_, rfl, rfl, _, rfl, ite2 (fun e0 => ?_) (fun e0 => ?_)⟩
    · obtain rfl := pick ho 0 rfl (str_of e0)
      refine ⟨_, rfl, _, rfl, _, _, rfl, rfl, _, rfl, _, _, rfl, rfl, _, rfl, ite2 (fun e => ?_) (fun e => ?_)⟩
      · refine ⟨_, rfl, _, rfl, _, _, rfl, rfl, ?_⟩
        rw [add_lo (of_decide_eq_true e)] at qs
        exact qs
      · refine ⟨_, rfl, _, rfl, _, _, rfl, rfl, _, rfl, _, _, rfl, rfl, ?_⟩
        rw [add_hi ha hb (fun z => e (decide_eq_true z))] at qs
        exact qs
    -- sub
    refine ⟨_, rfl, rfl, _, rfl, ite2 (fun e1 => ?_) (fun e1 => ?_)⟩
    · obtain rfl := pick ho 1 rfl (str_of e1)
      refine ⟨_, rfl, _, rfl, _, _, rfl, rfl, _, rfl, ite2 (fun e => ?_) (fun e => ?_)⟩
      · refine ⟨_, rfl, _, rfl, _, _, rfl, rfl, ?_⟩
        rw [sub_hi ha (of_decide_eq_true e)] at qs
        exact qs
      · refine ⟨_, rfl, _, rfl, _, _, rfl, rfl, _, rfl, _, _, rfl, rfl, ?_⟩
        rw [sub_lo hb (fun z => e (decide_eq_true z))] at qs
        exact qs
    -- mul
    refine ⟨_, rfl, rfl, _, rfl, ite2 (fun e2 => ?_) (fun e2 => ?_)⟩
    · obtain rfl := pick ho 2 rfl (str_of e2)
      refine ⟨_, rfl, _, rfl, _, _, rfl, rfl, .inl ⟨by omega, by omega⟩, _, rfl, _, rfl, _, _, rfl, rfl, .inl ⟨by omega, by omega⟩, _, rfl, _, _, rfl, rfl, ⟨by omega, by omega⟩, _, rfl, _, _, rfl, rfl, .inr ⟨by omega, by omega⟩, _, _, rfl, rfl, ?_⟩
      show Q (.int ((a : Int) * b - (a : Int) * b / 2 ^ W * 2 ^ W)) H
      rw [rest_eq]
      exact qs
    -- and, or, xor
    refine ⟨_, rfl, (by show 3 ≤ sizeLine; decide), fun l hl => ⟨l, _, rfl, .inl (SqL.of upd_same), rfl, rfl, _, rfl, ite2 (fun e3 => ?_) (fun e3 => ?_)⟩⟩
    · obtain ⟨c, hB, rfl⟩ := bit_ops ho e3
      have sm : Same H (upd H l (.lst [.str "and", .str "or", .str "xor"])) := fun b o e => by
        rw [upd_ne (ne_of_none e hl)]
        exact e
      refine ⟨_, rfl, W, rfl, by omega, by omega, for_range (lo := 0) (n := ((W : Int)).toNat) (fun i σ H' => ∃ y6 y7, σ = [some (.str op), some (.int W), some (.int a), some (.int b), some (.int (2 ^ W)), some (.int ((bop c a b % 2 ^ i : Nat) : Int)), y6, y7] ∧ H' = upd H l (.lst [.str "and", .str "or", .str "xor"]))
        ⟨none, none, by rw [Nat.pow_zero, Nat.mod_one]; rfl, rfl⟩ ?_ ?_⟩
      · rintro i σ H' hi ⟨y6, y7, rfl, rfl⟩
        rw [Int.toNat_natCast] at hi
        have lk : (0 : Int) < 2 ^ i := pow_pos i
        have lk16 : (2 : Int) ^ i ≤ 65536 := pow_le16 (by omega)
        have ek : V.int ((0 : Int) + (i : Int)) = V.int (i : Int) := by rw [Int.zero_add]
        refine ⟨_, rfl, _, rfl, i, rfl, ek, by omega, _, _, rfl, rfl, ⟨lk, by omega⟩, _, _, rfl, rfl, (by show (0 : Int) < 2; decide),
          _, rfl, _, rfl, i, rfl, ek, by omega, _, _, rfl, rfl, ⟨lk, by omega⟩, _, _, rfl, rfl, (by show (0 : Int) < 2; decide), _, _, rfl, rfl, ?_⟩
        refine gName_go (nx_go ?_)
        refine tIfS_val (or_val (and_val (fun Q q => ⟨_, rfl, rfl, _, rfl, q⟩) (fun Q q => ⟨_, rfl, rfl, _, rfl, q⟩)) (or_val (and_val (fun Q q => ⟨_, rfl, rfl, _, rfl, q⟩) (fun Q q => ⟨_, rfl, _, _, rfl, rfl, _, rfl, q⟩)) (and_val (fun Q q => ⟨_, rfl, rfl, _, rfl, q⟩) (fun Q q => ⟨_, rfl, rfl, _, rfl, q⟩)))) ?_
        have hv := hit_val hB (both (a : Int) (b : Int) i)
        unfold both at hv
        rw [hv]
        have hs := hit_step c a b i
        unfold both at hs
        refine ite2 (fun e => ?_) (fun e => ?_)
        · rw [if_pos e] at hs
          refine ⟨_, rfl, _, rfl, i, rfl, ek, by omega, _, _, rfl, rfl, some (.int (0 + (i : Int))), some (.int ((a : Int) / 2 ^ i % 2 + (b : Int) / 2 ^ i % 2)), ?_, rfl⟩
          rw [hs]
          rfl
        · rw [if_neg e] at hs
          refine ⟨some (.int (0 + (i : Int))), some (.int ((a : Int) / 2 ^ i % 2 + (b : Int) / 2 ^ i % 2)), ?_, rfl⟩
          rw [hs]
          rfl
      · rintro σ H' ⟨y6, y7, rfl, rfl⟩
        refine ⟨_, rfl, ?_⟩
        have q1 := q _ sm
        have em : bop c a b % 2 ^ W = bop c a b := bop_mod ha hb
        show Q (.int ((bop c a b % 2 ^ ((W : Int)).toNat : Nat) : Int)) _
        rw [Int.toNat_natCast, em]
        exact q1
    have sm : Same H (upd H l (.lst [.str "and", .str "or", .str "xor"])) := fun b o e => by
      rw [upd_ne (ne_of_none e hl)]
      exact e
    have qs := q _ sm
    -- shl
    refine ⟨_, rfl, rfl, _, rfl, ite2 (fun e6 => ?_) (fun e6 => ?_)⟩
    · obtain rfl := pick ho 6 rfl (str_of e6)
      refine ⟨_, rfl, _, rfl, _, _, rfl, rfl, _, rfl, ite2 (fun e => ?_) (fun e => ?_)⟩
      · unfold gShl at qs
        rw [if_pos (of_decide_eq_true e)] at qs
        exact qs
      · have e' : ¬ (W : Int) ≤ b := fun z => e (decide_eq_true z)
        have l2 : (2 : Int) ^ b ≤ 65536 := pow_le16 (by omega)
        have l3 := pow_pos b
        refine ⟨_, rfl, _, rfl, b, rfl, rfl, by omega, _, _, rfl, rfl, .inl ⟨by omega, by omega⟩, _, rfl, _, rfl, b, rfl, rfl, by omega, _, _, rfl, rfl, .inl ⟨by omega, by omega⟩, _, rfl, _, _, rfl, rfl, ⟨by omega, by omega⟩, _, rfl, _, _, rfl, rfl, .inr ⟨by omega, by omega⟩, _, _, rfl, rfl, ?_⟩
        show Q (.int ((a : Int) * 2 ^ b - (a : Int) * 2 ^ b / 2 ^ W * 2 ^ W)) _
        rw [rest_eq]
        unfold gShl at qs
        rw [if_neg e'] at qs
        exact qs
    -- shr
    refine ⟨_, rfl, rfl, _, rfl, ite2 (fun e7 => ?_) (fun e7 => ?_)⟩
    · obtain rfl := pick ho 7 rfl (str_of e7)
      refine ⟨_, rfl, _, rfl, _, _, rfl, rfl, _, rfl, ite2 (fun e => ?_) (fun e => ?_)⟩
      · unfold gShr at qs
        rw [if_pos (of_decide_eq_true e)] at qs
        exact qs
      · have e' : ¬ (W : Int) ≤ b := fun z => e (decide_eq_true z)
        have l2 : (2 : Int) ^ b ≤ 65536 := pow_le16 (by omega)
        have l3 := pow_pos b
        refine ⟨_, rfl, _, rfl, b, rfl, rfl, by omega, _, _, rfl, rfl, ⟨l3, by omega⟩, ?_⟩
        unfold gShr at qs
        rw [if_neg e'] at qs
        exact qs
    -- less
    refine ⟨_, rfl, rfl, _, rfl, ite2 (fun e8 => ?_) (fun e8 => ?_)⟩
    · obtain rfl := pick ho 8 rfl (str_of e8)
      refine ⟨_, rfl, _, rfl, _, _, rfl, rfl, _, rfl, ite2 (fun e => ?_) (fun e => ?_)⟩
      · unfold gLess at qs
        rw [if_pos (of_decide_eq_true e)] at qs
        exact qs
      · unfold gLess at qs
        rw [if_neg (fun z => e (decide_eq_true z))] at qs
        exact qs
    -- equal
    refine ⟨_, rfl, rfl, _, rfl, ite2 (fun e9 => ?_) (fun e9 => ?_)⟩
    · obtain rfl := pick ho 9 rfl (str_of e9)
      refine ⟨_, rfl, _, rfl, rfl, _, rfl, ite2 (fun e => ?_) (fun e => ?_)⟩
      · unfold gEqual at qs
        rw [if_pos (V.int.inj (of_decide_eq_true e))] at qs
        exact qs
      · unfold gEqual at qs
        rw [if_neg (fun z => e (decide_eq_true (by rw [z])))] at qs
        exact qs
    -- not
    refine ⟨_, rfl, rfl, _, rfl, ite2 (fun e10 => ?_) (fun e10 => ?_)⟩
    · obtain rfl := pick ho 10 rfl (str_of e10)
      refine ⟨_, rfl, _, _, rfl, rfl, _, rfl, _, _, rfl, rfl, ?_⟩
      exact qs
    -- neg
    obtain rfl := last_neg ho (str_ne e0) (str_ne e1) (str_ne e2) e3 (str_ne e6) (str_ne e7) (str_ne e8) (str_ne e9) (str_ne e10)
    refine ⟨_, rfl, rfl, _, rfl, ite2 (fun e => ?_) (fun e => ?_)⟩
    · rw [neg_0 (V.int.inj (of_decide_eq_true e))] at qs
      exact qs
    · refine ⟨_, rfl, _, rfl, _, _, rfl, rfl, ?_⟩
      rw [neg_1 ha (fun z => e (decide_eq_true (by rw [z])))] at qs
      exact qs
end
end K0

set_option Elab.async false
set_option linter.all false
set_option maxRecDepth 100000
set_option maxHeartbeats 1000000
namespace K0
open PySem L2
/-- all but what stands at d is as it was -/
def Keep (d : Addr) (H H' : Hp) : Prop := ∀ b o, H b = some o → b ≠ d → H' b = some o
theorem Keep.refl (d : Addr) (H : Hp) : Keep d H H := fun _ _ e _ => e
theorem Keep.trans {d : Addr} {H H1 H2 : Hp} (a : Keep d H H1) (b : Keep d H1 H2) : Keep d H H2 := fun c o e n => b c o (a c o e n) n
theorem Keep.of {d : Addr} {H H1 : Hp} (s : Same H H1) : Keep d H H1 := fun c o e _ => s c o e
theorem Keep.put {d : Addr} {H : Hp} {o : HO} : Keep d H (upd H d o) := fun b u e n => by
  rw [upd_ne n]
  exact e
theorem same_new {H : Hp} {p : Addr} {o : HO} (h : H p = none) : Same H (upd H p o) := fun b x e => by
  rw [upd_ne (ne_of_none e h)]
  exact e
/-- the row of draws -/
structure Drw (H : Hp) (d c : Addr) (ns : List Int) (k l s : Int) : Prop where
  at_ : H d = some (.lst [.ref c, .int k, .int l, .int s])
  cells : H c = some (.lst (ns.map V.int))
  ne : c ≠ d
  k0 : -1 ≤ k
  l0 : 0 ≤ l
  s0 : 0 ≤ s
  s1 : s < 2147483648
  pos : ∀ n ∈ ns, 0 ≤ n
theorem Drw.store {H : Hp} {d c : Addr} {ns : List Int} {k l s k' l' s' : Int} (D : Drw H d c ns k l s) (hk : -1 ≤ k') (hl : 0 ≤ l') (h0 : 0 ≤ s') (h1 : s' < 2147483648) : Drw (upd H d (.lst [.ref c, .int k', .int l', .int s'])) d c ns k' l' s' :=
  ⟨upd_same, by rw [upd_ne D.ne]; exact D.cells, D.ne, hk, hl, h0, h1, D.pos⟩
theorem Drw.same {H H' : Hp} {d c : Addr} {ns : List Int} {k l s : Int} (D : Drw H d c ns k l s) (e : Same H H') : Drw H' d c ns k l s := ⟨e _ _ D.at_, e _ _ D.cells, D.ne, D.k0, D.l0, D.s0, D.s1, D.pos⟩
def Drd (H : Hp) (d c : Addr) (ns : List Int) : Prop := ∃ k l s, Drw H d c ns k l s
theorem Drd.same {H H' : Hp} {d c : Addr} {ns : List Int} (D : Drd H d c ns) (e : Same H H') : Drd H' d c ns := by
  obtain ⟨k, l, s, D⟩ := D
  exact ⟨k, l, s, D.same e⟩
def spTake : Sp := fun vs H Q _ => ∃ (d c : Addr) (ns : List Int) (m : Int), vs = [.ref d, .int m] ∧ Drd H d c ns ∧ 1 ≤ m ∧ m ≤ 65536 ∧ ∀ (z : Nat) H', (z : Int) < m → Drd H' d c ns → Keep d H H' → Q (.int z) H'
section
variable {P : Program} {w : World} {K : PySem.W.Frag} {mg : Str → Option Value} {base : Heap}
theorem scTake : FnScope ["draw", "many", "found"] ["draw", "many"] (defScope sTake) := ⟨rfl, rfl, rfl, by decide +kernel, rfl, by decide +kernel, by decide +kernel⟩
theorem ok_take {f : Addr} {fd : FuncData} (F : Fun K "_law_take" "_law_take" sTake f fd) (ml : mg "len" = none) (mi : mg "int" = none) : FnOk P w K mg base CX0 1 f fd ["draw", "many"] spTake := by
  refine F.ok scTake (fun vs H Q E h => ?_) (fun cdv A outer s H vs Q E hr h => ?_)
  · obtain ⟨d, c, ns, m, rfl, _⟩ := h
    rfl
  · obtain ⟨d, c, ns, m, rfl, D, m1, m2, q⟩ := h
    have nd := scTake.nd
    refine ⟨_, C8.pss_cut (ps_if (pt_cmpR op_eq (pe_ix ix_list (pv 0) pe_int (fun _ _ => rfl)) pe_int (nomark _))
        (pss_cons (ps_asg (pe_op op_add (pe_ix ix_list (pv 0) pe_int (fun _ _ => rfl)) pe_int) (pg_sub (pv 0) pe_int set_list))
        (C8.pss_cut (ps_if (pt_cmpR op_lt (pe_ix ix_list (pv 0) pe_int (fun _ _ => rfl)) (pe_callB call_len_seq (by rfl) ml PySem.boot_len (pa_cons (pe_ix ix_list (pv 0) pe_int (fun _ _ => rfl)) pa_nil)) (nomark _))
            (pss_one (ps_asg (pe_ix ix_list (pe_ix ix_list (pv 0) pe_int (fun _ _ => rfl)) (pe_ix ix_list (pv 0) pe_int (fun _ _ => rfl)) (fun _ _ => rfl)) (pg_sub (pv 0) pe_int set_list))) pss_nil)
        (pss_one (ps_if (pt_cmpR op_eq (pe_ix ix_list (pv 0) pe_int (fun _ _ => rfl)) pe_int (nomark _))
            (pss_cons (ps_asg (pe_op op_mod (pe_callTy call_int1 (by rfl) mi (by decide +kernel) (pa_cons (pe_op op_add (pe_op op_mul (pe_ix ix_list (pv 0) pe_int (fun _ _ => rfl)) pe_int) pe_int) pa_nil)) pe_int) (pg_sub (pv 0) pe_int set_list))
            (pss_one (ps_asg (pe_ix ix_list (pv 0) pe_int (fun _ _ => rfl)) (pg_sub (pv 0) pe_int set_list)))) pss_nil)))) pss_nil)
      (pss_cons (ps_set (i := 2) nd rfl (.inl rfl) (pe_op op_mod (pe_callTy call_int1 (by rfl) mi (by decide +kernel) (pa_cons (pe_ix ix_list (pv 0) pe_int (fun _ _ => rfl)) pa_nil)) (pv 1)))
      (pss_cons (ps_asg (pe_op op_fdiv (pe_ix ix_list (pv 0) pe_int (fun _ _ => rfl)) (pv 1)) (pg_sub (pv 0) pe_int set_list))
      (pss_one (ps_ret (pv 2))))), ?_⟩
    refine ⟨fun σ' H' => σ' = [some (.ref d), some (.int m), none] ∧ Drd H' d c ns ∧ Keep d H H', ?_, ?_⟩
    · obtain ⟨k, l, s, D⟩ := D
      refine ⟨_, rfl, d, _, 2, _, rfl, rfl, .of D.at_, atI_nat (j := 2) rfl, rfl, _, rfl, ite2 (fun e => ?_) (fun e => ?_)⟩
      · -- draw[1] = draw[1] + 1
        have D1 : Drw (upd H d (.lst [.ref c, .int (k + 1), .int l, .int s])) d c ns (k + 1) l s := D.store (by have := D.k0; omega) D.l0 D.s0 D.s1
        refine ⟨_, rfl, d, _, 1, _, rfl, rfl, .of D.at_, atI_nat (j := 1) rfl, _, _, rfl, rfl, _, rfl, d, _, 1, 1, rfl, rfl, D.at_, rfl, ?_⟩
        refine ⟨fun σ' H' => σ' = [some (.ref d), some (.int m), none] ∧ Drd H' d c ns ∧ Keep d H H', ?_, ?_⟩
        · refine ⟨_, rfl, d, _, 1, _, rfl, rfl, .of D1.at_, atI_nat (j := 1) rfl, _, rfl, d, _, 0, _, rfl, rfl, .of D1.at_, atI_nat (j := 0) rfl, c, _, rfl, .inl (.of D1.cells), _, _, rfl, rfl, _, rfl, ite2 (fun e => ?_) (fun e => ?_)⟩
          · have hlt := of_decide_eq_true e
            rw [List.length_map] at hlt
            have hk := D1.k0
            have hk0 := D.k0
            obtain ⟨j, hj⟩ : ∃ j : Nat, k + 1 = (j : Int) := ⟨(k + 1).toNat, by omega⟩
            have hjl : j < ns.length := by omega
            have g : (ns.map V.int)[j]? = some (.int ns[j]) := by
              rw [List.getElem?_map, List.getElem?_eq_getElem hjl]
              rfl
            refine ⟨_, rfl, d, _, 0, _, rfl, rfl, .of D1.at_, atI_nat (j := 0) rfl, _, rfl, d, _, 1, _, rfl, rfl, .of D1.at_, atI_nat (j := 1) rfl, c, _, k + 1, _, rfl, rfl, .of D1.cells, at_of hj g, _, rfl, d, _, 2, 2, rfl, rfl, D1.at_, rfl, rfl, ⟨_, _, _, D1.store D1.k0 (D.pos _ (List.getElem_mem hjl)) D1.s0 D1.s1⟩, Keep.put.trans Keep.put⟩
          · exact ⟨rfl, ⟨_, _, _, D1⟩, Keep.put⟩
        · rintro σ' H' ⟨rfl, ⟨k2, l2, s2, D2⟩, kp⟩
          refine ⟨_, rfl, d, _, 2, _, rfl, rfl, .of D2.at_, atI_nat (j := 2) rfl, rfl, _, rfl, ite2 (fun e => ?_) (fun e => ?_)⟩
          · have hs0 := D2.s0
            have hs1 := D2.s1
            have r0 : 0 ≤ (s2 * 48271 + 11) % 2147483647 := Int.emod_nonneg _ (by decide)
            have r1 : (s2 * 48271 + 11) % 2147483647 < 2147483647 := Int.emod_lt_of_pos _ (by decide)
            have D3 : Drw (upd H' d (.lst [.ref c, .int k2, .int l2, .int ((s2 * 48271 + 11) % 2147483647)])) d c ns k2 l2 ((s2 * 48271 + 11) % 2147483647) := D2.store D2.k0 D2.l0 r0 (by omega)
            refine ⟨_, rfl, d, _, 3, _, rfl, rfl, .of D2.at_, atI_nat (j := 3) rfl, _, _, rfl, rfl, .inl ⟨by omega, by omega⟩, _, _, rfl, rfl, .inl ⟨_, rfl, ?_⟩⟩
            refine ⟨_, _, rfl, rfl, (by show (0 : Int) < 2147483647; decide), _, rfl, d, _, 3, 3, rfl, rfl, D2.at_, rfl, ?_⟩
            refine ⟨_, rfl, d, _, 3, _, rfl, rfl, .of D3.at_, atI_nat (j := 3) rfl, _, rfl, d, _, 2, 2, rfl, rfl, D3.at_, rfl, rfl, ⟨_, _, _, D3.store D3.k0 r0 r0 (by omega)⟩, (kp.trans Keep.put).trans Keep.put⟩
          · exact ⟨rfl, ⟨_, _, _, D2⟩, kp⟩
      · exact ⟨rfl, ⟨k, l, s, D⟩, Keep.refl _ _⟩
    · rintro σ' H' ⟨rfl, ⟨k, l, s, D⟩, kp⟩
      have hl := D.l0
      have r0 : 0 ≤ l % m := Int.emod_nonneg _ (by omega)
      have r1 : l % m < m := Int.emod_lt_of_pos _ (by omega)
      have q0 : 0 ≤ l / m := Int.ediv_nonneg hl (by omega)
      refine ⟨_, rfl, d, _, 2, _, rfl, rfl, .of D.at_, atI_nat (j := 2) rfl, .inl ⟨_, rfl, _, rfl, _, _, rfl, rfl, (by show (0 : Int) < m; omega), ?_⟩⟩
      refine ⟨_, rfl, d, _, 2, _, rfl, rfl, .of D.at_, atI_nat (j := 2) rfl, _, rfl, _, _, rfl, rfl, ⟨by omega, by omega⟩, _, rfl, d, _, 2, 2, rfl, rfl, D.at_, rfl, ?_⟩
      refine ⟨_, rfl, ?_⟩
      have ez : ((l % m).toNat : Int) = l % m := Int.toNat_of_nonneg r0
      have qq := q (l % m).toNat (upd H' d (.lst [.ref c, .int k, .int (l / m), .int s])) (by omega) ⟨_, _, _, D.store D.k0 q0 D.s0 D.s1⟩ (kp.trans Keep.put)
      rw [ez] at qq
      exact qq
end
end K0

set_option Elab.async false
set_option linter.all false
set_option maxRecDepth 100000
set_option maxHeartbeats 1000000
namespace K0
open PySem L2
def ten : List V := [.str "add", .str "sub", .str "mul", .str "and", .str "or", .str "xor", .str "shl", .str "shr", .str "less", .str "equal"]
def spPairs : Sp := fun vs H Q _ => vs = [] ∧ ∀ p, H p = none → Q (.ref p) (upd H p (.lst ten))
def spWord : Sp := fun vs H Q _ => ∃ (d c : Addr) (ns : List Int) (W : Nat), vs = [.ref d, .int W] ∧ Drd H d c ns ∧ 1 ≤ W ∧ W ≤ 16 ∧ ∀ (z : Nat) H', z < 2 ^ W → Drd H' d c ns → Keep d H H' → Q (.int z) H'
def spDraw (K : PySem.W.Frag) : Sp := fun vs H Q _ => ∃ (a : Addr) (ns : List Int), vs = [.ref a] ∧ SqL K H a (ns.map V.int) ∧ ns.length ≤ 63 ∧ ∀ d c ms H', Drd H' d c ms → Same H H' → H d = none → Q (.ref d) H'
/-- a def as it is called: its promise, its name, its parameters -/
structure Got (P : Program) (w : World) (K : PySem.W.Frag) (mg : Str → Option Value) (base : Heap) (k : Nat) (x : Str) (ps : List Str) (sp : Sp) : Prop where
  ex : ∃ (f : Addr) (fd : FuncData), FnOk P w K mg base CX0 k f fd ps sp ∧ mg x = some (.ref f) ∧ PySem.W.keepIn K (.ref f) = true ∧ Binds K fd ps []
section
variable {P : Program} {w : World} {K : PySem.W.Frag} {mg : Str → Option Value} {base : Heap}
theorem scPairs : FnScope [] [] (defScope sPairs) := ⟨rfl, rfl, rfl, by decide +kernel, rfl, by decide +kernel, by decide +kernel⟩
theorem ok_pairs {f : Addr} {fd : FuncData} (F : Fun K "_law_pairs" "_law_pairs" sPairs f fd) : FnOk P w K mg base CX0 1 f fd [] spPairs := by
  refine F.ok scPairs (fun vs H Q E h => ?_) (fun cdv A outer s H vs Q E hr h => ?_)
  · obtain ⟨rfl, _⟩ := h
    rfl
  · obtain ⟨rfl, q⟩ := h
    refine ⟨_, pss_one (ps_ret (pe_lst (pa_cons pe_str (pa_cons pe_str (pa_cons pe_str (pa_cons pe_str (pa_cons pe_str (pa_cons pe_str (pa_cons pe_str (pa_cons pe_str (pa_cons pe_str (pa_cons pe_str pa_nil)))))))))))), ?_⟩
    exact ⟨(by show 10 ≤ sizeLine; decide), q⟩
theorem scWord : FnScope ["draw", "w", "k"] ["draw", "w"] (defScope sWord) := ⟨rfl, rfl, rfl, by decide +kernel, rfl, by decide +kernel, by decide +kernel⟩
theorem ok_word {f : Addr} {fd : FuncData} (F : Fun K "_law_word" "_law_word" sWord f fd) (mi : mg "int" = none) (mm : mg "min" = none)
    (GT : Got P w K mg base 1 "_law_take" ["draw", "many"] spTake) (GL : Got P w K mg base 1 "_law_top" ["w"] spTop) : FnOk P w K mg base CX0 2 f fd ["draw", "w"] spWord := by
  obtain ⟨ft, fdt, GT, mgT, kT, bT⟩ := GT.ex
  obtain ⟨fl, fdl, GL, mgL, kL, bL⟩ := GL.ex
  refine F.ok scWord (fun vs H Q E h => ?_) (fun cdv A outer s H vs Q E hr h => ?_)
  · obtain ⟨d, c, ns, W, rfl, _⟩ := h
    rfl
  · obtain ⟨d, c, ns, W, rfl, D, h1, hW, q⟩ := h
    have nd := scWord.nd
    have lp := pow_pos W
    have l16 := pow_le16 hW
    have ep := pow_cast W
    have e2 : 2 ≤ 2 ^ W := by
      have := Nat.pow_le_pow_right (show 0 < 2 by decide) h1
      exact this
    refine ⟨_, pss_cons (ps_set (i := 2) nd rfl (.inl rfl) (pe_call GT hr (by rfl) mgT kT bT .nil pass0 (pa_cons (pv 0) (pa_cons pe_int pa_nil))))
      (pss_cons (ps_if (pt_cmpR op_lt (pv 2) pe_int (nomark _))
        (pss_one (ps_ret (pe_callB (call_min2 rfl) (by rfl) mm PyProof.Rows.boot_min (pa_cons (pe_ix ix_list (pe_lst (pa_cons pe_int (pa_cons pe_int (pa_cons pe_int pa_nil)))) (pv 2) (fun _ _ => rfl)) (pa_cons (pe_call GL hr (by rfl) mgL kL bL .nil pass0 (pa_cons (pv 1) pa_nil)) pa_nil))))) pss_nil)
      (pss_cons (ps_if (pt_cmpR op_eq (pv 2) pe_int (nomark _)) (pss_one (ps_ret (pe_call GL hr (by rfl) mgL kL bL .nil pass0 (pa_cons (pv 1) pa_nil)))) pss_nil)
      (pss_one (ps_ret (pe_op op_mod (pe_callTy call_int1 (by rfl) mi (by decide +kernel) (pa_cons (pe_call GT hr (by rfl) mgT kT bT .nil pass0 (pa_cons (pv 0) (pa_cons pe_int pa_nil))) pa_nil)) (pe_op op_shl1 pe_int (pv 1))))))), ?_⟩
    refine ⟨_, rfl, d, c, ns, 6, rfl, D, by decide, by decide, fun k H1 hk D1 kp1 => ?_⟩
    refine ⟨_, rfl, _, _, rfl, rfl, _, rfl, ite2 (fun e => ?_) (fun e => ?_)⟩
    · have e' : (k : Int) < 3 := of_decide_eq_true e
      refine ⟨(by show 3 ≤ sizeLine; decide), fun p hp => ?_⟩
      have s1 : Same H1 (upd H1 p (.lst [.int 0, .int 1, .int 5])) := same_new hp
      obtain ⟨v, hv, hv0⟩ : ∃ v : Nat, ([.int 0, .int 1, .int 5] : List V)[k]? = some (.int (v : Int)) ∧ v ≤ 5 := by
        match k, e' with
        | 0, _ => exact ⟨0, rfl, by decide⟩
        | 1, _ => exact ⟨1, rfl, by decide⟩
        | 2, _ => exact ⟨5, rfl, by decide⟩
        | k + 3, e => omega
      refine ⟨_, rfl, p, _, _, _, rfl, rfl, .of upd_same, atI_nat hv, _, rfl, W, rfl, hW, _, _, rfl, ?_⟩
      by_cases hlt : (2 : Int) ^ W - 1 < v
      · rw [if_pos hlt]
        have := q (2 ^ W - 1) _ (by omega) (D1.same s1) (kp1.trans (Keep.of s1))
        have ez : ((2 ^ W - 1 : Nat) : Int) = 2 ^ W - 1 := by omega
        rw [ez] at this
        exact this
      · rw [if_neg hlt]
        exact q v _ (by omega) (D1.same s1) (kp1.trans (Keep.of s1))
    · refine ⟨_, rfl, rfl, _, rfl, ite2 (fun e => ?_) (fun e => ?_)⟩
      · refine ⟨_, rfl, W, rfl, hW, ?_⟩
        have := q (2 ^ W - 1) _ (by omega) D1 kp1
        have ez : ((2 ^ W - 1 : Nat) : Int) = 2 ^ W - 1 := by omega
        rw [ez] at this
        exact this
      · refine ⟨_, rfl, d, c, ns, 65536, rfl, D1, by decide, by decide, fun z H2 hz D2 kp2 => .inl ⟨_, rfl, _, rfl, W, rfl, rfl, hW, _, _, rfl, rfl, lp, ?_⟩⟩
        have r0 : 0 ≤ (z : Int) % 2 ^ W := Int.emod_nonneg _ (by omega)
        have r1 : (z : Int) % 2 ^ W < 2 ^ W := Int.emod_lt_of_pos _ lp
        have := q ((z : Int) % 2 ^ W).toNat _ (by omega) D2 (kp1.trans kp2)
        rw [Int.toNat_of_nonneg r0] at this
        exact this
theorem scDraw : FnScope ["script", "seed", "cell"] ["script"] (defScope sDraw) := ⟨rfl, rfl, rfl, by decide +kernel, rfl, by decide +kernel, by decide +kernel⟩
theorem tYes_go {σ : St} {H : Hp} {A B : Bool → Hp → Prop} (h : A true H) : tYes σ H (fun b H3 => if b = true then A b H3 else B b H3) := by
  show if true = true then A true H else B true H
  exact iteT h
def abz (i : Int) : Int := if i < 0 then -i else i
theorem abz_nn (i : Int) : 0 ≤ abz i := by
  unfold abz
  split <;> omega
theorem ok_draw {f : Addr} {fd : FuncData} (F : Fun K "_law_draw" "_law_draw" sDraw f fd) (mi : mg "int" = none) (ma : mg "abs" = none) : FnOk P w K mg base CX0 1 f fd ["script"] (spDraw K) := by
  refine F.ok scDraw (fun vs H Q E h => ?_) (fun cdv A outer s H vs Q E hr h => ?_)
  · obtain ⟨a, ns, rfl, _⟩ := h
    rfl
  · obtain ⟨a, ns, rfl, hS, hlen, q⟩ := h
    have nd := scDraw.nd
    refine ⟨_, pss_cons (ps_set (i := 1) nd rfl (.inl rfl) pe_int)
      (pss_cons (ps_for PassesOwn.never rfl (pi_list (pv 0)) (pg_name (i := 2) nd rfl (.inl rfl))
        (pss_one (ps_set (i := 1) nd rfl (.inl rfl) (pe_op op_mod (pe_callTy call_int1 (by rfl) mi (by decide +kernel) (pa_cons (pe_op op_add (pe_op op_add (pe_op op_mul (pv 1) pe_int) (pe_op op_mod (pe_callB call_abs (by rfl) ma PyProof.Rows.boot_abs (pa_cons (pe_callTy call_int1 (by rfl) mi (by decide +kernel) (pa_cons (pv 2) pa_nil)) pa_nil)) pe_int)) pe_int) pa_nil)) pe_int))))
      (pss_one (ps_ret (pe_lst (pa_cons (pe_lc (own := [("cell", 2)]) (g := gName 2) (tt := tYes) rfl nd (pi_list (pv 0)) (blkOk_by (N := ["script", "seed", "cell"]) (sc := defScope sDraw) (by decide +kernel)) (fun _ _ _ _ _ => pg_name (i := 2) nd rfl (.inl rfl)) (fun _ _ _ _ _ => pts_nil)
            (fun _ _ _ _ _ => pe_callB call_abs (by rfl) ma PyProof.Rows.boot_abs (pa_cons (pe_callTy call_int1 (by rfl) mi (by decide +kernel) (pa_cons (pv 2) pa_nil)) pa_nil)))
          (pa_cons (pe_un un_neg pe_int) (pa_cons pe_int (pa_cons (pv 1) pa_nil)))))))), ?_⟩
    refine ⟨_, rfl, a, rfl, ⟨_, hS⟩, for_list (xs := ns.map V.int) (fun i σ H' => ∃ s y2, σ = [some (.ref a), some (.int s), y2] ∧ 0 ≤ s ∧ s < 2147483648 ∧ H' = H) ⟨7, none, rfl, by decide, by decide, rfl⟩ ?_ ?_ ?_⟩
    · rintro i σ H' _ ⟨s, y2, rfl, _, _, rfl⟩
      exact hS
    · rintro i x σ H' hx ⟨s, y2, rfl, s0, s1, rfl⟩
      obtain ⟨n, rfl⟩ : ∃ n, x = V.int n := by
        rw [List.getElem?_map] at hx
        cases e : ns[i]? with
        | none => rw [e] at hx; cases hx
        | some u => rw [e] at hx; exact ⟨u, (Option.some.inj hx).symm⟩
      refine ⟨_, rfl, _, _, rfl, rfl, .inl ⟨by omega, by omega⟩, _, rfl, .inl ⟨_, rfl, _, rfl, _, _, rfl, rfl, (by show (0 : Int) < 65521; decide), _, _, rfl, rfl, _, _, rfl, rfl, .inl ⟨_, rfl, _, _, rfl, rfl, (by show (0 : Int) < 2147483647; decide), ?_⟩⟩⟩
      refine ⟨_, _, rfl, Int.emod_nonneg _ (by decide), ?_, rfl⟩
      have r1 := Int.emod_lt_of_pos (s * 48271 + (if n < 0 then -n else n) % 65521 + 1) (show (0 : Int) < 2147483647 by decide)
      exact Int.lt_trans r1 (by decide)
    · rintro σ H' ⟨s, y2, rfl, s0, s1, rfl⟩
      refine ⟨_, rfl, a, rfl, ⟨_, hS⟩, fun D hD => lc_list (xs := ns.map V.int) (fun i H1 => i ≤ ns.length ∧ H1 D = some (.lst ((ns.take i).map fun n => V.int (abz n))) ∧ Same H' H1) ⟨Nat.zero_le _, upd_same, same_new hD⟩ ?_ ?_ ?_⟩
      · rintro i H1 _ ⟨_, _, sm⟩
        exact sm.seq hS
      · rintro i x H1 hx ⟨hi, hD1, sm⟩
        have hil : i < ns.length := by
          have q := (List.getElem?_eq_some_iff.mp hx).1
          rw [List.length_map] at q
          exact q
        obtain rfl : x = V.int ns[i] := by
          rw [List.getElem?_map, List.getElem?_eq_getElem hil] at hx
          exact (Option.some.inj hx).symm
        refine ⟨rfl, ?_⟩
        refine tYes_go ?_
        refine ⟨_, rfl, .inl ⟨_, rfl, _, rfl, ?_⟩⟩
        refine ⟨_, hD1, ?_, hil, ?_, ?_⟩
        · rw [List.length_map, List.length_take]
          exact small1000 (by omega)
        · rw [upd_same, List.take_add_one, List.getElem?_eq_getElem hil, List.map_append]
          rfl
        · intro b o e
          rw [upd_ne (ne_of_none e hD)]
          exact sm b o e
      · rintro H1 ⟨_, hD1, sm⟩
        rw [List.length_map, List.take_length] at hD1
        refine ⟨_, rfl, _, rfl, (by show 4 ≤ sizeLine; decide), fun p hp => ?_⟩
        have s2 : Same H1 (upd H1 p (.lst [.ref D, .int (-1), .int 0, .int s])) := same_new hp
        have hDp : D ≠ p := ne_of_none hD1 hp
        refine q p D (ns.map abz) _ ⟨-1, 0, s, ⟨upd_same, ?_, hDp, by decide, by decide, s0, s1, ?_⟩⟩ (sm.trans s2) (sm.free hp)
        · rw [upd_ne hDp, hD1, List.map_map]
          rfl
        · intro n hn
          obtain ⟨m, _, rfl⟩ := List.mem_map.mp hn
          exact abz_nn m
end
end K0

set_option Elab.async false
set_option linter.all false
set_option maxRecDepth 100000
set_option maxHeartbeats 1000000
namespace K0
open PySem L2
def spComp : Sp := fun vs H Q _ => ∃ (op : Str) (g : G) (W a b : Nat), vs = [.str op, .int W, .int a, .int b] ∧ (op, g) ∈ ops ∧ 1 ≤ W ∧ W ≤ 16 ∧ a < 2 ^ W ∧ b < 2 ^ W ∧ Q (.int (g W a b)) H
theorem draw_w {t : Nat} (ht : t < 16) {k : Nat} (hk : k < 7) : ∃ W : Nat, ([.int 1, .int 2, .int 7, .int 8, .int 15, .int 16, .int (1 + (t : Int))] : List V)[k]? = some (.int (W : Int)) ∧ 1 ≤ W ∧ W ≤ 16 := by
  match k, hk with
  | 0, _ => exact ⟨1, rfl, by decide, by decide⟩
  | 1, _ => exact ⟨2, rfl, by decide, by decide⟩
  | 2, _ => exact ⟨7, rfl, by decide, by decide⟩
  | 3, _ => exact ⟨8, rfl, by decide, by decide⟩
  | 4, _ => exact ⟨15, rfl, by decide, by decide⟩
  | 5, _ => exact ⟨16, rfl, by decide, by decide⟩
  | 6, _ => exact ⟨1 + t, congrArg (fun z => some (V.int z)) (by omega), by omega, by omega⟩
  | k + 7, h => omega
theorem iteNb {b : Bool} {A B : Prop} (h : b = true) (x : B) : if (!b) = true then A else B := by
  subst h
  exact iteF x
theorem call_minN {X : Cx} (hc : X.calm = true) : CallR X (.builtin "min") (fun xs H Q => ∃ i j b : Int, xs = [.int i, .int j] ∧ (if j < i then j else i) = b ∧ Q (.int b) H) := by
  intro pins s σ H xs us Q I r h
  obtain ⟨i, j, b, e, eb, q⟩ := h
  exact call_min2 hc pins s σ H xs us Q I r ⟨i, j, e, by rw [eb]; exact q⟩
theorem Drd.ne {H : Hp} {d c p : Addr} {ns : List Int} (D : Drd H d c ns) (hp : H p = none) : p ≠ d := by
  obtain ⟨k, l, s, D⟩ := D
  exact (ne_of_none D.at_ hp).symm
section
variable {P : Program} {w : World} {K : PySem.W.Frag} {mg : Str → Option Value} {base : Heap}
theorem scComp : FnScope ["op", "w", "x", "y", "action"] ["op", "w", "x", "y"] (defScope sCompute) := ⟨rfl, rfl, rfl, by decide +kernel, rfl, by decide +kernel, by decide +kernel⟩
/-- the table of actions -/
def Table (P : Program) (w : World) (K : PySem.W.Frag) (mg : Str → Option Value) (base : Heap) (dA : Addr) : Prop :=
  ∀ op g, (op, g) ∈ ops → ∃ (f : Addr) (fd : FuncData) (ps : List Str), KDct K w dA op (.ref f) ∧ FnOk P w K mg base CX0 2 f fd ps (spAct g) ∧ PySem.W.keepIn K (.ref f) = true ∧ Binds K fd ps []
theorem ok_compute {f : Addr} {fd : FuncData} {dA : Addr} (F : Fun K "compute" "compute" sCompute f fd) (mA : mg "_ACTIONS" = some (.ref dA)) (T : Table P w K mg base dA) : FnOk P w K mg base CX0 3 f fd ["op", "w", "x", "y"] spComp := by
  refine F.ok scComp (fun vs H Q E h => ?_) (fun cdv A outer s H vs Q E hr h => ?_)
  · obtain ⟨op, g, W, a, b, rfl, _⟩ := h
    rfl
  · obtain ⟨op, g, W, a, b, rfl, ho, h1, hW, ha, hb, q⟩ := h
    obtain ⟨fa, fda, ps, kd, FA, kA, bA⟩ := T op g ho
    have nd := scComp.nd
    refine ⟨_, pss_cons (ps_set (i := 4) nd rfl (.inl rfl) (pe_ix ix_kdict (pe_glob (v := .ref dA) (by rfl) mA rfl) (pv 0) (fun _ _ => rfl)))
      (pss_one (ps_ret (pe_callL (i := 4) (f := fa) FA hr rfl (.inl rfl) kA bA .nil pass0 (pa_cons (pv 1) (pa_cons (pv 2) (pa_cons (pv 3) pa_nil)))))), ?_⟩
    refine ⟨_, rfl, dA, op, .ref fa, rfl, rfl, kd, rfl, _, rfl, _, rfl, _, rfl, W, a, b, rfl, h1, hW, ha, hb, q⟩
end
end K0

set_option Elab.async false
set_option linter.all false
set_option maxRecDepth 100000
set_option maxHeartbeats 1000000
namespace K0
open PySem L2
inductive Ex where
  | int (n : Nat)
  | var (v : Nat)
  | load (e : Ex)
  | one (op : Str) (e : Ex)
  | two (op : Str) (e f : Ex)
/-- tuples stay -/
def Tups (H H' : Hp) : Prop := ∀ b xs, H b = some (.tup xs) → H' b = some (.tup xs)
theorem Tups.refl (H : Hp) : Tups H H := fun _ _ e => e
theorem Tups.trans {H H1 H2 : Hp} (a : Tups H H1) (b : Tups H1 H2) : Tups H H2 := fun c o e => b c o (a c o e)
theorem Tups.of {H H1 : Hp} (s : Same H H1) : Tups H H1 := fun c o e => s c _ e
theorem Tups.keep {H H1 : Hp} {d c : Addr} {ns : List Int} (D : Drd H d c ns) (s : Keep d H H1) : Tups H H1 := fun b xs e => by
  obtain ⟨k, l, z, D⟩ := D
  exact s b _ e (ne_of e D.at_ (by intro q; cases q))
def ExAt (H : Hp) : Ex → V → Prop
  | .int n, v => ∃ a, v = .ref a ∧ H a = some (.tup [.str "int", .int (n : Int)])
  | .var x, v => ∃ a, v = .ref a ∧ H a = some (.tup [.str "var", .int (x : Int)])
  | .load e, v => ∃ a u, v = .ref a ∧ H a = some (.tup [.str "load", u]) ∧ ExAt H e u
  | .one op e, v => ∃ a u, v = .ref a ∧ H a = some (.tup [.str op, u]) ∧ ExAt H e u
  | .two op e f, v => ∃ a u y, v = .ref a ∧ H a = some (.tup [.str op, u, y]) ∧ ExAt H e u ∧ ExAt H f y
theorem ExAt.mono {H H' : Hp} (t : Tups H H') : ∀ {e : Ex} {v : V}, ExAt H e v → ExAt H' e v
  | .int n, v, ⟨a, e1, e2⟩ => ⟨a, e1, t _ _ e2⟩
  | .var n, v, ⟨a, e1, e2⟩ => ⟨a, e1, t _ _ e2⟩
  | .load e, v, ⟨a, u, e1, e2, h⟩ => ⟨a, u, e1, t _ _ e2, ExAt.mono t h⟩
  | .one op e, v, ⟨a, u, e1, e2, h⟩ => ⟨a, u, e1, t _ _ e2, ExAt.mono t h⟩
  | .two op e f, v, ⟨a, u, y, e1, e2, h, h2⟩ => ⟨a, u, y, e1, t _ _ e2, ExAt.mono t h, ExAt.mono t h2⟩
def Ex.deep : Ex → Nat
  | .int _ => 1
  | .var _ => 1
  | .load e => e.deep + 1
  | .one _ e => e.deep + 1
  | .two _ e f => max e.deep f.deep + 1
def tenS : List Str := ["add", "sub", "mul", "and", "or", "xor", "shl", "shr", "less", "equal"]
theorem ten_eq : ten = tenS.map V.str := rfl
def EOk (W : Nat) : Ex → Prop
  | .int n => n < 2 ^ W
  | .var x => x < 100
  | .load e => EOk W e
  | .one op e => (op = "not" ∨ op = "neg") ∧ EOk W e
  | .two op e f => op ∈ tenS ∧ EOk W e ∧ EOk W f
def pKv (d : Addr) (W : Nat) (vl : Addr) : List (Key × V) := [(Sum.inr "draw", .ref d), (Sum.inr "width", .int (W : Int)), (Sum.inr "variables", .ref vl)]
theorem kv_draw {d : Addr} {W : Nat} {vl : Addr} : valV (pKv d W vl) (Sum.inr "draw") = some (.ref d) := rfl
theorem kv_width {d : Addr} {W : Nat} {vl : Addr} : valV (pKv d W vl) (Sum.inr "width") = some (.int (W : Int)) := rfl
theorem kv_vars {d : Addr} {W : Nat} {vl : Addr} : valV (pKv d W vl) (Sum.inr "variables") = some (.ref vl) := rfl
/-- what the making of a function goes by -/
structure Mk (H : Hp) (pa d c vl : Addr) (ns : List Int) (W : Nat) (vars : List Nat) : Prop where
  drd : Drd H d c ns
  p : H pa = some (.dK (pKv d W vl))
  vt : H vl = some (.lst (vars.map fun n : Nat => V.int (n : Int)))
  v0 : 0 < vars.length
  v1 : vars.length ≤ 7
  lt : ∀ x ∈ vars, x < 100
  w1 : 1 ≤ W
  w16 : W ≤ 16
theorem Mk.npd {H : Hp} {pa d c vl : Addr} {ns : List Int} {W : Nat} {vars : List Nat} (M : Mk H pa d c vl ns W vars) : pa ≠ d := by
  obtain ⟨k, l, z, D⟩ := M.drd
  exact ne_of M.p D.at_ (by intro q; cases q)
theorem Mk.nvd {H : Hp} {pa d c vl : Addr} {ns : List Int} {W : Nat} {vars : List Nat} (M : Mk H pa d c vl ns W vars) : vl ≠ d := by
  obtain ⟨k, l, z, D⟩ := M.drd
  refine ne_of M.vt D.at_ (fun q => ?_)
  have h := M.v0
  cases vars with
  | nil => exact absurd h (by decide)
  | cons x r =>
    have q1 := HO.lst.inj q
    have q2 := (List.cons.inj q1).1
    cases q2
theorem Mk.next {H H' : Hp} {pa d c vl : Addr} {ns : List Int} {W : Nat} {vars : List Nat} (M : Mk H pa d c vl ns W vars) (D : Drd H' d c ns) (k : Keep d H H') : Mk H' pa d c vl ns W vars :=
  ⟨D, k _ _ M.p M.npd, k _ _ M.vt M.nvd, M.v0, M.v1, M.lt, M.w1, M.w16⟩
theorem Mk.same {H H' : Hp} {pa d c vl : Addr} {ns : List Int} {W : Nat} {vars : List Nat} (M : Mk H pa d c vl ns W vars) (k : Same H H') : Mk H' pa d c vl ns W vars := M.next (M.drd.same k) (Keep.of k)
def spE : Nat → Sp
  | 0 => fun _ _ _ _ => False
  | n + 1 => fun vs H Q _ => ∃ (pa d c vl : Addr) (ns : List Int) (W : Nat) (vars : List Nat), vs = [.ref pa, .int (n : Int)] ∧ Mk H pa d c vl ns W vars ∧
      ∀ (e : Ex) (v : V) (H' : Hp), EOk W e → e.deep ≤ n + 1 → ExAt H' e v → Mk H' pa d c vl ns W vars → Keep d H H' → Q v H'
theorem tSeq_go {t u : TS} {D : Ends} {σ : L2.St} {H : Hp} (h : t { D with nx := u D } σ H) : tSeq t u D σ H := h
theorem deep_le {a b n : Nat} (h1 : a ≤ n) (h2 : b ≤ n) : max a b + 1 ≤ n + 1 := by omega
theorem twelve_ix {k : Nat} (hk : k < 12) : ∃ j : Nat, ([.int 0, .int 0, .int 1, .int 2, .int 3, .int 4, .int 5, .int 6, .int 7, .int 8, .int 9, .int 0] : List V)[k]? = some (.int (j : Int)) ∧ j < 10 := by
  match k, hk with
  | 0, _ => exact ⟨0, rfl, by decide⟩
  | 1, _ => exact ⟨0, rfl, by decide⟩
  | 2, _ => exact ⟨1, rfl, by decide⟩
  | 3, _ => exact ⟨2, rfl, by decide⟩
  | 4, _ => exact ⟨3, rfl, by decide⟩
  | 5, _ => exact ⟨4, rfl, by decide⟩
  | 6, _ => exact ⟨5, rfl, by decide⟩
  | 7, _ => exact ⟨6, rfl, by decide⟩
  | 8, _ => exact ⟨7, rfl, by decide⟩
  | 9, _ => exact ⟨8, rfl, by decide⟩
  | 10, _ => exact ⟨9, rfl, by decide⟩
  | 11, _ => exact ⟨0, rfl, by decide⟩
  | k + 12, h => omega
section
variable {P : Program} {w : World} {K : PySem.W.Frag} {mg : Str → Option Value} {base : Heap}
theorem scExpr : FnScope ["p", "depth", "draw", "k", "op"] ["p", "depth"] (defScope sExpr) := ⟨rfl, rfl, rfl, by decide +kernel, rfl, by decide +kernel, by decide +kernel⟩
theorem ok_expr {f : Addr} {fd : FuncData} (F : Fun K "_law_expression" "_law_expression" sExpr f fd) (mE : mg "_law_expression" = some (.ref f)) (kE : PySem.W.keepIn K (.ref f) = true) (bE : Binds K fd ["p", "depth"] []) (ml : mg "len" = none)
    (GT : Got P w K mg base 1 "_law_take" ["draw", "many"] spTake) (GW : Got P w K mg base 2 "_law_word" ["draw", "w"] spWord) (GP : Got P w K mg base 1 "_law_pairs" [] spPairs) : ∀ n, FnOk P w K mg base CX0 (3 + n) f fd ["p", "depth"] (spE n) := by
  obtain ⟨fT, fdT, GT, mT, kT, bT⟩ := GT.ex
  obtain ⟨fW, fdW, GW, mW, kW, bW⟩ := GW.ex
  obtain ⟨fP, fdP, GP, mP, kP, bP⟩ := GP.ex
  intro n
  induction n with
  | zero => exact (F.ok (k := 2) scExpr (fun vs H Q E h => h.elim) (fun cdv A outer s H vs Q E hr h => h.elim))
  | succ n ih =>
    have e0 : 3 + (n + 1) = (3 + n) + 1 := by omega
    rw [e0]
    refine F.ok scExpr (fun vs H Q E h => ?_) (fun cdv A outer s H vs Q E hr h => ?_)
    · obtain ⟨pa, d, c, vl, ns, W, vars, rfl, _⟩ := h
      rfl
    · obtain ⟨pa, d, c, vl, ns, W, vars, rfl, M, q⟩ := h
      have nd := scExpr.nd
      have hu := hu_of hr
      have hr1 : Room 1 _ := hr.mono (by omega)
      have hr2 : Room 2 _ := hr.mono (by omega)
      refine ⟨_, pss_cons (ps_set (i := 2) nd rfl (.inl rfl) (pe_dget hu (pv 0) pe_str (fun _ _ => rfl)))
        (pss_cons (ps_set (i := 3) nd rfl (.inl rfl) (pe_call GT hr1 (by rfl) mT kT bT .nil pass0 (pa_cons (pv 2) (pa_cons pe_int pa_nil))))
        (pss_cons (ps_if (PW.pt (pw_or (pt_cmpR op_eq (pv 1) pe_int (nomark _)) (pw_or1 (pt_cmpR op_lt (pv 3) pe_int (nomark _)))))
          (pss_cons (ps_if (pt_cmpR op_eq (pe_call GT hr1 (by rfl) mT kT bT .nil pass0 (pa_cons (pv 2) (pa_cons pe_int pa_nil))) pe_int (nomark _))
              (pss_one (ps_ret (pe_tup (pa_cons pe_str (pa_cons (pe_call GW hr2 (by rfl) mW kW bW .nil pass0 (pa_cons (pv 2) (pa_cons (pe_dget hu (pv 0) pe_str (fun _ _ => rfl)) pa_nil))) pa_nil))))) pss_nil)
            (pss_one (ps_ret (pe_tup (pa_cons pe_str (pa_cons (pe_ix ix_list (pe_dget hu (pv 0) pe_str (fun _ _ => rfl)) (pe_call GT hr1 (by rfl) mT kT bT .nil pass0 (pa_cons (pv 2) (pa_cons (pe_callB call_len_seq (by rfl) ml PySem.boot_len (pa_cons (pe_dget hu (pv 0) pe_str (fun _ _ => rfl)) pa_nil)) pa_nil))) (fun _ _ => rfl)) pa_nil)))))) pss_nil)
        (pss_cons (ps_if (pt_cmpR op_eq (pv 3) pe_int (nomark _)) (pss_one (ps_ret (pe_tup (pa_cons pe_str (pa_cons (pe_call ih hr (by rfl) mE kE bE .nil pass0 (pa_cons (pv 0) (pa_cons (pe_op op_sub (pv 1) pe_int) pa_nil))) pa_nil))))) pss_nil)
        (pss_cons (ps_if (pt_cmpR op_eq (pv 3) pe_int (nomark _)) (pss_one (ps_ret (pe_tup (pa_cons (pe_ix ix_list (pe_lst (pa_cons pe_str (pa_cons pe_str pa_nil))) (pe_call GT hr1 (by rfl) mT kT bT .nil pass0 (pa_cons (pv 2) (pa_cons pe_int pa_nil))) (fun _ _ => rfl)) (pa_cons (pe_call ih hr (by rfl) mE kE bE .nil pass0 (pa_cons (pv 0) (pa_cons (pe_op op_sub (pv 1) pe_int) pa_nil))) pa_nil))))) pss_nil)
        (pss_cons (ps_set (i := 4) nd rfl (.inl rfl) (pe_ix ix_list (pe_call0 GP hr1 (by rfl) mP kP bP .nil pass0)
            (pe_ix ix_list (pe_lst (pa_cons pe_int (pa_cons pe_int (pa_cons pe_int (pa_cons pe_int (pa_cons pe_int (pa_cons pe_int (pa_cons pe_int (pa_cons pe_int (pa_cons pe_int (pa_cons pe_int (pa_cons pe_int (pa_cons pe_int pa_nil))))))))))))) (pe_call GT hr1 (by rfl) mT kT bT .nil pass0 (pa_cons (pv 2) (pa_cons pe_int pa_nil))) (fun _ _ => rfl)) (fun _ _ => rfl)))
        (pss_one (ps_ret (pe_tup (pa_cons (pv 4) (pa_cons (pe_call ih hr (by rfl) mE kE bE .nil pass0 (pa_cons (pv 0) (pa_cons (pe_op op_sub (pv 1) pe_int) pa_nil))) (pa_cons (pe_call ih hr (by rfl) mE kE bE .nil pass0 (pa_cons (pv 0) (pa_cons (pe_op op_sub (pv 1) pe_int) pa_nil))) pa_nil))))))))))), ?_⟩
      -- draw = p['draw']; k = _law_take(draw, 10)
      refine ⟨_, rfl, pa, _, rfl, DGet.k (k := Sum.inr "draw") M.p, ?_⟩
      refine ⟨_, rfl, d, c, ns, 10, rfl, M.drd, by decide, by decide, fun k H1 hk D1 kp1 => ?_⟩
      have M1 := M.next D1 kp1
      refine gName_go (nx_go (tSeq_go (tIfS_val (or_val (fun Q q => ⟨_, rfl, rfl, _, rfl, q⟩) (fun Q q => ⟨_, rfl, _, _, rfl, rfl, _, rfl, q⟩)) (ite2 (fun e => ?_) (fun e => ?_)))))
      · refine ⟨_, rfl, d, c, ns, 3, rfl, M1.drd, by decide, by decide, fun k2 H2 hk2 D2 kp2 => ⟨rfl, _, rfl, ite2 (fun e => ?_) (fun e => ?_)⟩⟩
        · have M2 := M1.next D2 kp2
          refine ⟨_, rfl, _, rfl, pa, _, rfl, DGet.k (k := Sum.inr "width") M2.p, d, c, ns, W, rfl, M2.drd, M2.w1, M2.w16, fun z H3 hz D3 kp3 => ⟨(by show 2 ≤ sizeLine; decide), fun p hp => ?_⟩⟩
          exact q (.int z) (.ref p) _ hz (Nat.le_add_left 1 n) ⟨p, rfl, upd_same⟩ ((M2.next D3 kp3).same (same_new hp)) (((kp1.trans kp2).trans kp3).trans (Keep.of (same_new hp)))
        · have M2 := M1.next D2 kp2
          have hlen : ((vars.map fun n : Nat => V.int (n : Int)).length : Int) = (vars.length : Int) := by rw [List.length_map]
          have hv0 := M2.v0
          have hv1 := M2.v1
          refine ⟨_, rfl, pa, _, rfl, DGet.k (k := Sum.inr "variables") M2.p, _, rfl, _, rfl, pa, _, rfl, DGet.k (k := Sum.inr "variables") M2.p, vl, _, rfl, .inl (.of M2.vt), d, c, ns, _, rfl, M2.drd, by omega, by omega, fun z H3 hz D3 kp3 => ?_⟩
          have hzl : z < vars.length := by omega
          have M3 := M2.next D3 kp3
          have hv : (vars.map fun n : Nat => V.int (n : Int))[z]? = some (.int (vars[z] : Int)) := by
            rw [List.getElem?_map, List.getElem?_eq_getElem hzl]
            rfl
          refine ⟨vl, _, _, _, rfl, rfl, .of M3.vt, atI_nat hv, (by show 2 ≤ sizeLine; decide), fun p hp => ?_⟩
          exact q (.var vars[z]) (.ref p) _ (M3.lt _ (List.getElem_mem hzl)) (Nat.le_add_left 1 n) ⟨p, rfl, upd_same⟩ (M3.same (same_new hp)) (((kp1.trans kp2).trans kp3).trans (Keep.of (same_new hp)))
      · obtain ⟨m, rfl⟩ : ∃ m, n = m + 1 := by
          cases n with
          | zero => exact absurd rfl e
          | succ m => exact ⟨m, rfl⟩
        have em : (((m + 1 : Nat) : Int) - 1) = (m : Int) := by omega
        refine ⟨_, rfl, rfl, _, rfl, ite2 (fun e4 => ?_) (fun e4 => ?_)⟩
        · refine ⟨_, rfl, _, rfl, _, _, rfl, rfl, pa, d, c, vl, ns, W, vars, congrArg (fun z => [V.ref pa, V.int z]) em, M1, fun e v H2 ok dp at_ M2 kp2 => ⟨(by show 2 ≤ sizeLine; decide), fun p hp => ?_⟩⟩
          exact q (.load e) (.ref p) _ ok (Nat.succ_le_succ dp) ⟨p, v, rfl, upd_same, at_.mono (Tups.of (same_new hp))⟩ (M2.same (same_new hp)) ((kp1.trans kp2).trans (Keep.of (same_new hp)))
        refine ⟨_, rfl, rfl, _, rfl, ite2 (fun e5 => ?_) (fun e5 => ?_)⟩
        · refine ⟨(by show 2 ≤ sizeLine; decide), fun p0 hp0 => ?_⟩
          have Ma := M1.same (same_new (o := .lst [.str "not", .str "neg"]) hp0)
          refine ⟨_, rfl, d, c, ns, 2, rfl, Ma.drd, by decide, by decide, fun k2 H3 hk2 D3 kp3 => ?_⟩
          obtain ⟨op, hop, ho⟩ : ∃ op : Str, ([.str "not", .str "neg"] : List V)[k2]? = some (.str op) ∧ (op = "not" ∨ op = "neg") := by
            have h2 : k2 < 2 := by omega
            match k2, h2 with
            | 0, _ => exact ⟨_, rfl, .inl rfl⟩
            | 1, _ => exact ⟨_, rfl, .inr rfl⟩
            | k + 2, h => omega
          refine ⟨p0, _, _, _, rfl, rfl, .of (kp3 p0 _ upd_same (M1.drd.ne hp0)), atI_nat hop, ?_⟩
          refine ⟨_, rfl, _, rfl, _, _, rfl, rfl, pa, d, c, vl, ns, W, vars, congrArg (fun z => [V.ref pa, V.int z]) em, Ma.next D3 kp3, fun e v H2 ok dp at_ M2 kp2 => ⟨(by show 2 ≤ sizeLine; decide), fun p hp => ?_⟩⟩
          exact q (.one op e) (.ref p) _ ⟨ho, ok⟩ (Nat.succ_le_succ dp) ⟨p, v, rfl, upd_same, at_.mono (Tups.of (same_new hp))⟩ (M2.same (same_new hp)) ((((kp1.trans (Keep.of (same_new hp0))).trans kp3).trans kp2).trans (Keep.of (same_new hp)))
        refine ⟨rfl, fun p4 hp4 => ⟨(by show 12 ≤ sizeLine; decide), fun p5 hp5 => ?_⟩⟩
        have n45 : p4 ≠ p5 := ne_of_none upd_same hp5
        have Ma := (M1.same (same_new (o := .lst ten) hp4)).same (same_new (o := .lst [.int 0, .int 0, .int 1, .int 2, .int 3, .int 4, .int 5, .int 6, .int 7, .int 8, .int 9, .int 0]) hp5)
        refine ⟨_, rfl, d, c, ns, 12, rfl, Ma.drd, by decide, by decide, fun k2 H3 hk2 D3 kp3 => ?_⟩
        obtain ⟨j, hj, hj10⟩ := twelve_ix (k := k2) (by omega)
        have hjl : j < tenS.length := hj10
        have hop : ten[j]? = some (.str tenS[j]) := by
          rw [ten_eq, List.getElem?_map, List.getElem?_eq_getElem hjl]
          rfl
        have np4 : p4 ≠ d := M1.drd.ne hp4
        have np5 : p5 ≠ d := (M1.same (same_new hp4)).drd.ne hp5
        refine ⟨p5, _, _, _, rfl, rfl, .of (kp3 p5 _ upd_same np5), atI_nat hj, p4, _, _, _, rfl, rfl, .of (kp3 p4 _ (by rw [upd_ne n45]; exact upd_same) np4), atI_nat hop, ?_⟩
        refine ⟨_, rfl, _, rfl, _, rfl, _, _, rfl, rfl, pa, d, c, vl, ns, W, vars, congrArg (fun z => [V.ref pa, V.int z]) em, Ma.next D3 kp3, fun e v H4 ok dp at_ M4 kp4 => ?_⟩
        refine ⟨_, rfl, _, rfl, _, _, rfl, rfl, pa, d, c, vl, ns, W, vars, congrArg (fun z => [V.ref pa, V.int z]) em, M4, fun e2 v2 H5 ok2 dp2 at2 M5 kp5 => ⟨(by show 3 ≤ sizeLine; decide), fun p hp => ?_⟩⟩
        exact q (.two tenS[j] e e2) (.ref p) _ ⟨List.getElem_mem hjl, ok, ok2⟩ (deep_le dp dp2) ⟨p, v, v2, rfl, upd_same, (at_.mono (Tups.keep M4.drd kp5)).mono (Tups.of (same_new hp)), at2.mono (Tups.of (same_new hp))⟩ (M5.same (same_new hp))
          ((((((kp1.trans (Keep.of (same_new hp4))).trans (Keep.of (same_new hp5))).trans kp3).trans kp4).trans kp5).trans (Keep.of (same_new hp)))
end
end K0

set_option Elab.async false
set_option linter.all false
set_option maxRecDepth 100000
set_option maxHeartbeats 1000000
namespace K0
open PySem L2
inductive Sm where
  | set (x : Nat) (e : Ex)
  | write (e : Ex)
  | store (a e : Ex)
def SmAt (H : Hp) : Sm → V → Prop
  | .set x e, v => ∃ a u, v = .ref a ∧ H a = some (.tup [.str "set", .int (x : Int), u]) ∧ ExAt H e u
  | .write e, v => ∃ a u, v = .ref a ∧ H a = some (.tup [.str "write", u]) ∧ ExAt H e u
  | .store z e, v => ∃ a u y, v = .ref a ∧ H a = some (.tup [.str "store", u, y]) ∧ ExAt H z u ∧ ExAt H e y
theorem SmAt.mono {H H' : Hp} (t : Tups H H') : ∀ {s : Sm} {v : V}, SmAt H s v → SmAt H' s v
  | .set x e, v, ⟨a, u, e1, e2, h⟩ => ⟨a, u, e1, t _ _ e2, h.mono t⟩
  | .write e, v, ⟨a, u, e1, e2, h⟩ => ⟨a, u, e1, t _ _ e2, h.mono t⟩
  | .store z e, v, ⟨a, u, y, e1, e2, h, h2⟩ => ⟨a, u, y, e1, t _ _ e2, h.mono t, h2.mono t⟩
/-- a right expression that nests at most three deep -/
def E3 (W : Nat) (e : Ex) : Prop := EOk W e ∧ e.deep ≤ 3
def SmOk (W : Nat) : Sm → Prop
  | .set x e => x < 100 ∧ E3 W e
  | .write e => E3 W e
  | .store a e => E3 W a ∧ E3 W e
def spS : Sp := fun vs H Q _ => ∃ (pa d c vl : Addr) (ns : List Int) (W : Nat) (vars : List Nat), vs = [.ref pa] ∧ Mk H pa d c vl ns W vars ∧
  ∀ (s : Sm) (v : V) (H' : Hp), SmOk W s → SmAt H' s v → Mk H' pa d c vl ns W vars → Keep d H H' → Q v H'
/-- the maker of expressions as it is called -/
structure GotE (P : Program) (w : World) (K : PySem.W.Frag) (mg : Str → Option Value) (base : Heap) : Prop where
  ex : ∃ (f : Addr) (fd : FuncData), (∀ n, FnOk P w K mg base CX0 (3 + n) f fd ["p", "depth"] (spE n)) ∧ mg "_law_expression" = some (.ref f) ∧ PySem.W.keepIn K (.ref f) = true ∧ Binds K fd ["p", "depth"] []
section
variable {P : Program} {w : World} {K : PySem.W.Frag} {mg : Str → Option Value} {base : Heap}
theorem scStmt : FnScope ["p", "draw", "k"] ["p"] (defScope sStmt) := ⟨rfl, rfl, rfl, by decide +kernel, rfl, by decide +kernel, by decide +kernel⟩
theorem ok_stmt {f : Addr} {fd : FuncData} (F : Fun K "_law_statement" "_law_statement" sStmt f fd) (ml : mg "len" = none)
    (GT : Got P w K mg base 1 "_law_take" ["draw", "many"] spTake) (GE : GotE P w K mg base) : FnOk P w K mg base CX0 7 f fd ["p"] spS := by
  obtain ⟨fT, fdT, GT, mT, kT, bT⟩ := GT.ex
  obtain ⟨fE, fdE, GE, mE, kE, bE⟩ := GE.ex
  have G2 := GE 3
  have G1 := GE 2
  refine F.ok scStmt (fun vs H Q E h => ?_) (fun cdv A outer s H vs Q E hr h => ?_)
  · obtain ⟨pa, d, c, vl, ns, W, vars, rfl, _⟩ := h
    rfl
  · obtain ⟨pa, d, c, vl, ns, W, vars, rfl, M, q⟩ := h
    have nd := scStmt.nd
    have hu := hu_of hr
    have hr1 : Room 1 _ := hr.mono (by decide)
    have hrE : Room (3 + 3) _ := hr
    have hrF : Room (3 + 2) _ := hr.mono (by decide)
    refine ⟨_, pss_cons (ps_set (i := 1) nd rfl (.inl rfl) (pe_dget hu (pv 0) pe_str (fun _ _ => rfl)))
      (pss_cons (ps_set (i := 2) nd rfl (.inl rfl) (pe_call GT hr1 (by rfl) mT kT bT .nil pass0 (pa_cons (pv 1) (pa_cons pe_int pa_nil))))
      (pss_cons (ps_if (pt_cmpR op_lt (pv 2) pe_int (nomark _)) (pss_one (ps_ret (pe_tup (pa_cons pe_str (pa_cons
          (pe_ix ix_list (pe_dget hu (pv 0) pe_str (fun _ _ => rfl)) (pe_call GT hr1 (by rfl) mT kT bT .nil pass0 (pa_cons (pv 1) (pa_cons (pe_callB call_len_seq (by rfl) ml PySem.boot_len (pa_cons (pe_dget hu (pv 0) pe_str (fun _ _ => rfl)) pa_nil)) pa_nil))) (fun _ _ => rfl))
          (pa_cons (pe_call G2 hrE (by rfl) mE kE bE .nil pass0 (pa_cons (pv 0) (pa_cons pe_int pa_nil))) pa_nil)))))) pss_nil)
      (pss_cons (ps_if (pt_cmpR op_lt (pv 2) pe_int (nomark _)) (pss_one (ps_ret (pe_tup (pa_cons pe_str (pa_cons (pe_call G2 hrE (by rfl) mE kE bE .nil pass0 (pa_cons (pv 0) (pa_cons pe_int pa_nil))) pa_nil))))) pss_nil)
      (pss_one (ps_ret (pe_tup (pa_cons pe_str (pa_cons (pe_call G1 hrF (by rfl) mE kE bE .nil pass0 (pa_cons (pv 0) (pa_cons pe_int pa_nil))) (pa_cons (pe_call G2 hrE (by rfl) mE kE bE .nil pass0 (pa_cons (pv 0) (pa_cons pe_int pa_nil))) pa_nil))))))))), ?_⟩
    refine ⟨_, rfl, pa, _, rfl, DGet.k (k := Sum.inr "draw") M.p, ?_⟩
    refine ⟨_, rfl, d, c, ns, 8, rfl, M.drd, by decide, by decide, fun k H1 hk D1 kp1 => ?_⟩
    have M1 := M.next D1 kp1
    have hlen : ((vars.map fun n : Nat => V.int (n : Int)).length : Int) = (vars.length : Int) := by rw [List.length_map]
    have hv0 := M1.v0
    have hv1 := M1.v1
    refine ⟨_, rfl, _, _, rfl, rfl, _, rfl, ite2 (fun e => ?_) (fun e => ?_)⟩
    · refine ⟨_, rfl, pa, _, rfl, DGet.k (k := Sum.inr "variables") M1.p, _, rfl, _, rfl, pa, _, rfl, DGet.k (k := Sum.inr "variables") M1.p, vl, _, rfl, .inl (.of M1.vt), d, c, ns, _, rfl, M1.drd, by omega, by omega, fun z H3 hz D3 kp3 => ?_⟩
      have hzl : z < vars.length := by omega
      have M3 := M1.next D3 kp3
      have hv : (vars.map fun n : Nat => V.int (n : Int))[z]? = some (.int (vars[z] : Int)) := by
        rw [List.getElem?_map, List.getElem?_eq_getElem hzl]
        rfl
      refine ⟨vl, _, _, _, rfl, rfl, .of M3.vt, atI_nat hv, ?_⟩
      refine ⟨_, rfl, pa, d, c, vl, ns, W, vars, rfl, M3, fun e v H4 ok dp at_ M4 kp4 => ⟨(by show 3 ≤ sizeLine; decide), fun p hp => ?_⟩⟩
      exact q (.set vars[z] e) (.ref p) _ ⟨M3.lt _ (List.getElem_mem hzl), ok, dp⟩ ⟨p, v, rfl, upd_same, at_.mono (Tups.of (same_new hp))⟩ (M4.same (same_new hp)) (((kp1.trans kp3).trans kp4).trans (Keep.of (same_new hp)))
    refine ⟨_, rfl, _, _, rfl, rfl, _, rfl, ite2 (fun e => ?_) (fun e => ?_)⟩
    · refine ⟨_, rfl, pa, d, c, vl, ns, W, vars, rfl, M1, fun e v H4 ok dp at_ M4 kp4 => ⟨(by show 2 ≤ sizeLine; decide), fun p hp => ?_⟩⟩
      exact q (.write e) (.ref p) _ ⟨ok, dp⟩ ⟨p, v, rfl, upd_same, at_.mono (Tups.of (same_new hp))⟩ (M4.same (same_new hp)) ((kp1.trans kp4).trans (Keep.of (same_new hp)))
    refine ⟨_, rfl, pa, d, c, vl, ns, W, vars, rfl, M1, fun e v H4 ok dp at_ M4 kp4 => ?_⟩
    refine ⟨_, rfl, pa, d, c, vl, ns, W, vars, rfl, M4, fun e2 v2 H5 ok2 dp2 at2 M5 kp5 => ⟨(by show 3 ≤ sizeLine; decide), fun p hp => ?_⟩⟩
    exact q (.store e e2) (.ref p) _ ⟨⟨ok, Nat.le_succ_of_le dp⟩, ok2, dp2⟩ ⟨p, v, v2, rfl, upd_same, (at_.mono (Tups.keep M4.drd kp5)).mono (Tups.of (same_new hp)), at2.mono (Tups.of (same_new hp))⟩ (M5.same (same_new hp)) (((kp1.trans kp4).trans kp5).trans (Keep.of (same_new hp)))
end
end K0

set_option Elab.async false
set_option linter.all false
set_option maxRecDepth 100000
set_option maxHeartbeats 2000000
namespace K0
open PySem L2
inductive En where
  | go (l : Nat)
  | iff (e : Ex) (l m : Nat)
  | ret (e : Ex)
structure Bl where
  label : Nat
  body : List Sm
  fin : En
structure Fn where
  width : Nat
  params : Nat
  blocks : List Bl
def EnAt (H : Hp) : En → V → Prop
  | .go l, v => ∃ a, v = .ref a ∧ H a = some (.tup [.str "go", .int (l : Int)])
  | .iff e l m, v => ∃ a u, v = .ref a ∧ H a = some (.tup [.str "if", u, .int (l : Int), .int (m : Int)]) ∧ ExAt H e u
  | .ret e, v => ∃ a u, v = .ref a ∧ H a = some (.tup [.str "return", u]) ∧ ExAt H e u
theorem EnAt.mono {H H' : Hp} (t : Tups H H') : ∀ {s : En} {v : V}, EnAt H s v → EnAt H' s v
  | .go l, v, ⟨a, e1, e2⟩ => ⟨a, e1, t _ _ e2⟩
  | .iff e l m, v, ⟨a, u, e1, e2, h⟩ => ⟨a, u, e1, t _ _ e2, h.mono t⟩
  | .ret e, v, ⟨a, u, e1, e2, h⟩ => ⟨a, u, e1, t _ _ e2, h.mono t⟩
theorem Sms.mono {H H' : Hp} (t : Tups H H') {ss : List Sm} {vs : List V} (h : Paired (SmAt H) ss vs) : Paired (SmAt H') ss vs := L2.Paired.mapP h fun _ _ => SmAt.mono t
def BlAt (H : Hp) (b : Bl) (v : V) : Prop := ∃ a s u vs, v = .ref a ∧ H a = some (.tup [.int (b.label : Int), .ref s, u]) ∧ H s = some (.tup vs) ∧ Paired (SmAt H) b.body vs ∧ EnAt H b.fin u
theorem BlAt.mono {H H' : Hp} (t : Tups H H') {b : Bl} {v : V} : BlAt H b v → BlAt H' b v := fun ⟨a, s, u, vs, e1, e2, e3, h, k⟩ => ⟨a, s, u, vs, e1, t _ _ e2, t _ _ e3, Sms.mono t h, k.mono t⟩
theorem Bls.mono {H H' : Hp} (t : Tups H H') {bs : List Bl} {vs : List V} (h : Paired (BlAt H) bs vs) : Paired (BlAt H') bs vs := L2.Paired.mapP h fun _ _ => BlAt.mono t
def FnAt (H : Hp) (F : Fn) (v : V) : Prop := ∃ a b rows, v = .ref a ∧ H a = some (.tup [.int (F.width : Int), .int (F.params : Int), .ref b]) ∧ H b = some (.tup rows) ∧ Paired (BlAt H) F.blocks rows
theorem FnAt.mono {H H' : Hp} (t : Tups H H') {F : Fn} {v : V} : FnAt H F v → FnAt H' F v := fun ⟨a, b, rows, e1, e2, e3, h⟩ => ⟨a, b, rows, e1, t _ _ e2, t _ _ e3, Bls.mono t h⟩
/-- an end whose labels are among these -/
def EnOk (W : Nat) (ls : List Nat) : En → Prop
  | .go l => l ∈ ls
  | .iff e l m => E3 W e ∧ l ∈ ls ∧ m ∈ ls
  | .ret e => E3 W e
def BlOk (W mo : Nat) (ls : List Nat) (b : Bl) : Prop := (∀ s ∈ b.body, SmOk W s) ∧ b.body.length ≤ mo ∧ EnOk W ls b.fin
structure FnOk' (nb mo : Nat) (F : Fn) : Prop where
  w1 : 1 ≤ F.width
  w16 : F.width ≤ 16
  pr : F.params ≤ 6
  b1 : 1 ≤ F.blocks.length
  bn : F.blocks.length ≤ nb
  nd : (F.blocks.map (·.label)).Nodup
  lt : ∀ b ∈ F.blocks, b.label < 1000
  ok : ∀ b ∈ F.blocks, BlOk F.width mo (F.blocks.map (·.label)).tail b
def spF : Sp := fun vs H Q _ => ∃ (d c : Addr) (ns : List Int) (nb mo : Nat), vs = [.ref d, .int (nb : Int), .int (mo : Int)] ∧ Drd H d c ns ∧ 1 ≤ nb ∧ nb ≤ 40 ∧ mo ≤ 40 ∧
  ∀ (F : Fn) (v : V) (H' : Hp), FnOk' nb mo F → FnAt H' F v → Drd H' d c ns → Keep d H H' → Q v H'
/-! slices -/
theorem cut_to (xs : List V) (n : Nat) : cutV xs none (some (n : Int)) = xs.take n := by
  unfold cutV
  rw [HT.sIx_none, HT.sIx_nat, List.drop_zero, Nat.sub_zero]
  by_cases h : n ≤ xs.length
  · rw [Nat.min_eq_left h]
  · rw [Nat.min_eq_right (by omega), List.take_of_length_le (Nat.le_refl _), List.take_of_length_le (by omega)]
theorem cut_from (xs : List V) (n : Nat) : cutV xs (some (n : Int)) none = xs.drop n := by
  unfold cutV
  rw [HT.sIx_none, HT.sIx_nat]
  by_cases h : n ≤ xs.length
  · rw [Nat.min_eq_left h, List.take_of_length_le (by rw [List.length_drop]; exact Nat.le_refl _)]
  · rw [Nat.min_eq_right (by omega), List.drop_of_length_le (Nat.le_refl _), List.drop_of_length_le (by omega), List.take_nil]
/-! the state goes on: all but the draws stays -/
structure Go (d c : Addr) (ns : List Int) (H H' : Hp) : Prop where
  keep : Keep d H H'
  drd : Drd H' d c ns
theorem Go.start {d c : Addr} {ns : List Int} {H : Hp} (D : Drd H d c ns) : Go d c ns H H := ⟨Keep.refl _ _, D⟩
theorem Go.step {d c : Addr} {ns : List Int} {H H1 H2 : Hp} (g : Go d c ns H H1) (D : Drd H2 d c ns) (k : Keep d H1 H2) : Go d c ns H H2 := ⟨g.keep.trans k, D⟩
theorem Go.new {d c p : Addr} {ns : List Int} {H H1 : Hp} {o : HO} (g : Go d c ns H H1) (h : H1 p = none) : Go d c ns H (upd H1 p o) := ⟨g.keep.trans (Keep.of (same_new h)), g.drd.same (same_new h)⟩
theorem Go.tups {d c : Addr} {ns : List Int} {H H' : Hp} (D : Drd H d c ns) (g : Go d c ns H H') : Tups H H' := Tups.keep D g.keep
/-- an own new object is written -/
theorem Go.own {d c p : Addr} {ns : List Int} {H H1 : Hp} {o : HO} (D : Drd H d c ns) (g : Go d c ns H H1) (h : H p = none) : Go d c ns H (upd H1 p o) := by
  refine ⟨fun b u e n => ?_, ?_⟩
  · rw [upd_ne (ne_of_none e h)]
    exact g.keep b u e n
  · obtain ⟨k0, l0, s0, D0⟩ := D
    obtain ⟨k, l, s, D1⟩ := g.drd
    have nd : d ≠ p := ne_of_none D0.at_ h
    have nc : c ≠ p := ne_of_none D0.cells h
    exact ⟨k, l, s, ⟨by rw [upd_ne nd]; exact D1.at_, by rw [upd_ne nc]; exact D1.cells, D1.ne, D1.k0, D1.l0, D1.s0, D1.s1, D1.pos⟩⟩
theorem Go.toMk {H H' : Hp} {pa d c vl : Addr} {ns : List Int} {W : Nat} {vars : List Nat} (M : Mk H pa d c vl ns W vars) (g : Go d c ns H H') : Mk H' pa d c vl ns W vars := M.next g.drd g.keep
theorem Tups.lst {H : Hp} {p : Addr} {xs ys : List V} (h : H p = some (.lst xs)) : Tups H (upd H p (.lst ys)) := fun b zs e => by
  rw [upd_ne (ne_of e h (by intro q; cases q))]
  exact e
/-! draws -/
theorem draw_wf {t : Nat} (ht : t < 16) {k : Nat} (hk : k < 7) : ∃ W : Nat, ([.int 1, .int 2, .int 3, .int 4, .int 8, .int 16, .int (1 + (t : Int))] : List V)[k]? = some (.int (W : Int)) ∧ 1 ≤ W ∧ W ≤ 16 := by
  match k, hk with
  | 0, _ => exact ⟨1, rfl, by decide, by decide⟩
  | 1, _ => exact ⟨2, rfl, by decide, by decide⟩
  | 2, _ => exact ⟨3, rfl, by decide, by decide⟩
  | 3, _ => exact ⟨4, rfl, by decide, by decide⟩
  | 4, _ => exact ⟨8, rfl, by decide, by decide⟩
  | 5, _ => exact ⟨16, rfl, by decide, by decide⟩
  | 6, _ => exact ⟨1 + t, congrArg (fun z => some (V.int z)) (by omega), by omega, by omega⟩
  | k + 7, h => omega
theorem draw_pr {t : Nat} (ht : t < 7) {k : Nat} (hk : k < 5) : ∃ r : Nat, ([.int 0, .int 1, .int 2, .int 3, .int (t : Int)] : List V)[k]? = some (.int (r : Int)) ∧ r ≤ 6 := by
  match k, hk with
  | 0, _ => exact ⟨0, rfl, by decide⟩
  | 1, _ => exact ⟨1, rfl, by decide⟩
  | 2, _ => exact ⟨2, rfl, by decide⟩
  | 3, _ => exact ⟨3, rfl, by decide⟩
  | 4, _ => exact ⟨t, rfl, by omega⟩
  | k + 5, h => omega
def vars0 : List Nat := [0, 1, 2, 3, 7, 40]
def vars1 : List Nat := [0, 1, 53, 3, 4, 5, 99]
abbrev iv (l : List Nat) : List V := l.map fun n : Nat => V.int (n : Int)
abbrev NF : List Str := ["draw", "blocks", "most", "width", "params", "variables", "p", "count", "k", "labels", "rows", "body", "what", "later", "end", "other", "j"]
theorem iv_len (l : List Nat) : ((iv l).length : Int) = (l.length : Int) := by rw [List.length_map]
theorem iv_get {l : List Nat} {z : Nat} (h : z < l.length) : (iv l)[z]? = some (.int (l[z] : Int)) := by
  rw [List.getElem?_map, List.getElem?_eq_getElem h]
  rfl
theorem dp_iv {K : PySem.W.Frag} {H : Hp} : ∀ l : List Nat, DpAll K H (iv l) (l.map fun n : Nat => PyData.int (n : Int))
  | [] => .nil
  | x :: r => .cons (.int _) (dp_iv r)
theorem can_iv : ∀ l : List Nat, PyData.canLayAll0 (l.map fun n : Nat => PyData.int (n : Int)) = true
  | [] => rfl
  | x :: r => by
    show (true && PyData.canLayAll0 (r.map _)) = true
    rw [can_iv r]
    rfl
theorem dep_iv : ∀ l : List Nat, PyData.depthAll (l.map fun n : Nat => PyData.int (n : Int)) ≤ 1
  | [] => by decide
  | x :: r => by
    have := dep_iv r
    show max (PyData.depth (.int x)) (PyData.depthAll (r.map _)) ≤ 1
    exact Nat.max_le.mpr ⟨by simp [PyData.depth], this⟩
theorem sh_iv (l : List Nat) : SeqAt.shaped (.list (l.map fun n : Nat => PyData.int (n : Int))) = true := by
  unfold SeqAt.shaped
  have h1 : PyData.canLay0 (.list (l.map fun n : Nat => PyData.int (n : Int))) = true := can_iv l
  have h2 := dep_iv l
  have h3 : PyData.depth (.list (l.map fun n : Nat => PyData.int (n : Int))) ≤ 64 := by
    show PyData.depthAll (l.map fun n : Nat => PyData.int (n : Int)) + 1 ≤ 64
    omega
  rw [h1, decide_eq_true h3]
  rfl
theorem eqv_nil (l : List Nat) : PyData.eqv (.list (l.map fun n : Nat => PyData.int (n : Int))) (.list []) = l.isEmpty := by
  cases l with
  | nil => rfl
  | cons x r => rfl
end K0

set_option Elab.async false
set_option linter.all false
set_option maxRecDepth 100000
set_option maxHeartbeats 2000000
namespace K0
open PySem L2
theorem Go.trans {d c : Addr} {ns : List Int} {H H1 H2 : Hp} (a : Go d c ns H H1) (b : Go d c ns H1 H2) : Go d c ns H H2 := ⟨a.keep.trans b.keep, b.drd⟩
theorem Go.new2 {d c p : Addr} {ns : List Int} {H H1 : Hp} {o u : HO} (g : Go d c ns H H1) (h : H1 p = none) : Go d c ns H (upd (upd H1 p o) p u) := by
  rw [upd_upd]
  exact g.new h
theorem prd_snoc {α β : Type} {F : α → β → Prop} : ∀ {xs : List α} {ys : List β} {x : α} {y : β}, Paired F xs ys → F x y → Paired F (xs ++ [x]) (ys ++ [y])
  | _, _, _, _, .nil, h => .cons h .nil
  | _, _, _, _, .cons a t, h => .cons a (prd_snoc t h)
theorem labs_succ (f : Nat → Nat) (i : Nat) : iv ((List.range (i + 1)).map f) = iv ((List.range i).map f) ++ [.int (f i : Int)] := by
  unfold iv
  rw [List.range_succ, List.map_append, List.map_append]
  rfl
theorem iv_take (l : List Nat) (n : Nat) : (iv l).take n = iv (l.take n) := by
  unfold iv
  rw [List.map_take]
theorem iv_drop (l : List Nat) (n : Nat) : (iv l).drop n = iv (l.drop n) := by
  unfold iv
  rw [List.map_drop]
theorem nd_inj {n : Nat} {f : Nat → Nat} (h : ∀ a b, a < b → b < n → f a ≠ f b) : ((List.range n).map f).Nodup := by
  refine List.pairwise_map.mpr (List.Pairwise.imp_of_mem (fun {a b} ha hb hl => h a b hl (List.mem_range.mp hb)) List.pairwise_lt_range)
section
variable {P : Program} {w : World} {K : PySem.W.Frag} {mg : Str → Option Value} {base : Heap}
theorem scFun : FnScope NF ["draw", "blocks", "most"] (defScope sFun) := ⟨rfl, rfl, rfl, by decide +kernel, rfl, by decide +kernel, by decide +kernel⟩
theorem ok_fun {f : Addr} {fd : FuncData} (F : Fun K "_law_function" "_law_function" sFun f fd) (ml : mg "len" = none) (mr : mg "range" = none) (mt : mg "tuple" = none)
    (GT : Got P w K mg base 1 "_law_take" ["draw", "many"] spTake) (GE : GotE P w K mg base) (GS : Got P w K mg base 7 "_law_statement" ["p"] spS) : FnOk P w K mg base CX0 8 f fd ["draw", "blocks", "most"] spF := by
  obtain ⟨fT, fdT, GT, mT, kT, bT⟩ := GT.ex
  obtain ⟨fE, fdE, GE, mE, kE, bE⟩ := GE.ex
  obtain ⟨fS, fdS, GS, mS, kS, bS⟩ := GS.ex
  have G2 := GE 3
  have G1 := GE 2
  refine F.ok scFun (fun vs H Q E h => ?_) (fun cdv A outer s H vs Q E hr h => ?_)
  · obtain ⟨d, c, ns, nb, mo, rfl, _⟩ := h
    rfl
  · obtain ⟨d, c, ns, nb, mo, rfl, D0, nb1, nb40, mo40, q⟩ := h
    have nd := scFun.nd
    have hu := hu_of hr
    have hr1 : Room 1 _ := hr.mono (by decide)
    have hrE : Room (3 + 3) _ := hr.mono (by decide)
    have hrF : Room (3 + 2) _ := hr.mono (by decide)
    refine ⟨_, (pss_cons (ps_set (i := 3) nd rfl (.inl rfl) (pe_ix (r := rIxL K) ix_list (pe_lst (pa_cons pe_int (pa_cons pe_int (pa_cons pe_int (pa_cons pe_int (pa_cons pe_int (pa_cons pe_int (pa_cons (pe_op op_add pe_int (pe_call GT hr1 (by rfl) mT kT bT .nil pass0 (pa_cons (pv 0) (pa_cons pe_int pa_nil)))) pa_nil)))))))) (pe_call GT hr1 (by rfl) mT kT bT .nil pass0 (pa_cons (pv 0) (pa_cons pe_int pa_nil))) (fun _ _ => rfl))) (pss_cons (ps_set (i := 4) nd rfl (.inl rfl) (pe_ix (r := rIxL K) ix_list (pe_lst (pa_cons pe_int (pa_cons pe_int (pa_cons pe_int (pa_cons pe_int (pa_cons (pe_call GT hr1 (by rfl) mT kT bT .nil pass0 (pa_cons (pv 0) (pa_cons pe_int pa_nil))) pa_nil)))))) (pe_call GT hr1 (by rfl) mT kT bT .nil pass0 (pa_cons (pv 0) (pa_cons pe_int pa_nil))) (fun _ _ => rfl))) (pss_cons (ps_set (i := 5) nd rfl (.inl rfl) (pe_slice sl_list (pe_ix (r := rIxL K) ix_list (pe_lst (pa_cons (pe_lst (pa_cons pe_int (pa_cons pe_int (pa_cons pe_int (pa_cons pe_int (pa_cons pe_int (pa_cons pe_int pa_nil))))))) (pa_cons (pe_lst (pa_cons pe_int (pa_cons pe_int (pa_cons pe_int (pa_cons pe_int (pa_cons pe_int (pa_cons pe_int (pa_cons pe_int pa_nil)))))))) pa_nil))) (pe_call GT hr1 (by rfl) mT kT bT .nil pass0 (pa_cons (pv 0) (pa_cons pe_int pa_nil))) (fun _ _ => rfl)) po_none (po_some (pe_op op_add pe_int (pe_call GT hr1 (by rfl) mT kT bT .nil pass0 (pa_cons (pv 0) (pa_cons pe_int pa_nil))))))) (pss_cons (ps_set (i := 6) nd rfl (.inr rfl) (pe_disp (pps_cons pe_str (pv 0) (pps_cons pe_str (pv 3) (pps_cons pe_str (pv 5) pps_nil))) rfl rfl (by simp) (by decide))) (pss_cons (ps_set (i := 7) nd rfl (.inr rfl) (pe_op op_add pe_int (pe_call GT hr1 (by rfl) mT kT bT .nil pass0 (pa_cons (pv 0) (pa_cons (pv 1) pa_nil))))) (pss_cons (ps_set (i := 9) nd rfl (.inr rfl) (pe_lc (own := [("k", 8)]) (g := gName 8) (tt := tYes) rfl nd (pi_range1 (by rfl) mr (pa_cons (pv 7) pa_nil)) (blkOk_by (N := NF) (sc := defScope sFun) (by decide +kernel)) (fun _ _ _ _ _ => pg_name (i := 8) nd rfl (.inl rfl)) (fun _ _ _ _ _ => pts_nil) (fun _ _ _ _ _ => (pe_op op_add pe_int (pe_op op_mul pe_int (pv 8)))))) (C8.pss_cut (ps_if (pt_cmpR op_eq (pe_call GT hr1 (by rfl) mT kT bT .nil pass0 (pa_cons (pv 0) (pa_cons pe_int pa_nil))) pe_int (nomark _)) (pss_one (ps_set (i := 9) nd rfl (.inr rfl) (pe_lc (own := [("k", 8)]) (g := gName 8) (tt := tYes) rfl nd (pi_range1 (by rfl) mr (pa_cons (pv 7) pa_nil)) (blkOk_by (N := NF) (sc := defScope sFun) (by decide +kernel)) (fun _ _ _ _ _ => pg_name (i := 8) nd rfl (.inl rfl)) (fun _ _ _ _ _ => pts_nil) (fun _ _ _ _ _ => (pe_ix (r := rIxL K) ix_list (pv 9) (pe_op op_sub (pe_op op_sub (pv 7) pe_int) (pv 8)) (fun _ _ => rfl)))))) pss_nil) (pss_cons (ps_set (i := 10) nd rfl (.inl rfl) (pe_lst pa_nil)) (pss_cons (ps_for PassesOwn.never rfl (pi_range1 (by rfl) mr (pa_cons (pv 7) pa_nil)) (pg_name (i := 8) nd rfl (.inl rfl)) (pss_cons (ps_setLc (i := 11) (own := [("j", 16)]) (g := gName 16) (tt := tYes) rfl nd rfl rfl (sw_true rfl rfl rfl (by decide +kernel)) (pi_range1 (by rfl) mr (pa_cons (pe_call GT hr1 (by rfl) mT kT bT .nil pass0 (pa_cons (pv 0) (pa_cons (pe_op op_add (pv 2) pe_int) pa_nil))) pa_nil)) (blkOk_by (N := NF) (sc := defScope sFun) (by decide +kernel)) (fun _ _ _ _ _ => pg_name (i := 16) nd rfl (.inl rfl)) (fun _ _ _ _ _ => pts_nil) (fun _ _ _ _ _ => (pe_call GS hr (by rfl) mS kS bS .nil pass0 (pa_cons (pv 6) pa_nil)))) (pss_cons (ps_set (i := 12) nd rfl (.inl rfl) (pe_call GT hr1 (by rfl) mT kT bT .nil pass0 (pa_cons (pv 0) (pa_cons pe_int pa_nil)))) (pss_cons (ps_set (i := 13) nd rfl (.inl rfl) (pe_slice sl_list (pv 9) (po_some (pe_op op_add (pv 8) pe_int)) po_none)) (C8.pss_cut (ps_if (PW.pt (pw_or (pt_cmpR (op_eqD hr.units) (pv 13) (pe_lst pa_nil) (nomark _)) (pw_or1 (pt_cmpR op_eq (pv 12) pe_int (nomark _))))) (pss_one (ps_set (i := 14) nd rfl (.inl rfl) (pe_tup (pa_cons pe_str (pa_cons (pe_call G1 hrF (by rfl) mE kE bE .nil pass0 (pa_cons (pv 6) (pa_cons pe_int pa_nil))) pa_nil))))) (pss_one (ps_if (pt_cmpR op_eq (pv 12) pe_int (nomark _)) (pss_one (ps_set (i := 14) nd rfl (.inl rfl) (pe_tup (pa_cons pe_str (pa_cons (pe_ix (r := rIxL K) ix_list (pv 13) (pe_call GT hr1 (by rfl) mT kT bT .nil pass0 (pa_cons (pv 0) (pa_cons (pe_callB call_len_seq (by rfl) ml PySem.boot_len (pa_cons (pv 13) pa_nil)) pa_nil))) (fun _ _ => rfl)) pa_nil))))) (C8.pss_cut (ps_set (i := 15) nd rfl (.inl rfl) (pe_ifExp (pt_cmpR op_eq (pe_call GT hr1 (by rfl) mT kT bT .nil pass0 (pa_cons (pv 0) (pa_cons pe_int pa_nil))) pe_int (nomark _)) (pe_ix (r := rIxL K) ix_list (pe_slice sl_list (pv 9) (po_some pe_int) po_none) (pe_call GT hr1 (by rfl) mT kT bT .nil pass0 (pa_cons (pv 0) (pa_cons (pe_op op_sub (pv 7) pe_int) pa_nil))) (fun _ _ => rfl)) (pe_ix (r := rIxL K) ix_list (pv 13) (pe_call GT hr1 (by rfl) mT kT bT .nil pass0 (pa_cons (pv 0) (pa_cons (pe_callB call_len_seq (by rfl) ml PySem.boot_len (pa_cons (pv 13) pa_nil)) pa_nil))) (fun _ _ => rfl)))) (pss_one (ps_set (i := 14) nd rfl (.inl rfl) (pe_tup (pa_cons pe_str (pa_cons (pe_call G2 hrE (by rfl) mE kE bE .nil pass0 (pa_cons (pv 6) (pa_cons pe_int pa_nil))) (pa_cons (pv 15) (pa_cons (pe_ix (r := rIxL K) ix_list (pv 13) (pe_call GT hr1 (by rfl) mT kT bT .nil pass0 (pa_cons (pv 0) (pa_cons (pe_callB call_len_seq (by rfl) ml PySem.boot_len (pa_cons (pv 13) pa_nil)) pa_nil))) (fun _ _ => rfl)) pa_nil))))))))))) (pss_one (ps_expr (pe_bm PySem.F.plainAttrs_list PySem.F.slot_list_append PySem.F.type_list_append mt_append (pv 10) (pa_cons (pe_tup (pa_cons (pe_ix (r := rIxL K) ix_list (pv 9) (pv 8) (fun _ _ => rfl)) (pa_cons (pe_callTy call_tuple_of (by rfl) mt (by decide +kernel) (pa_cons (pv 11) pa_nil)) (pa_cons (pv 14) pa_nil)))) pa_nil))))))))) (pss_one (ps_ret (pe_tup (pa_cons (pv 3) (pa_cons (pv 4) (pa_cons (pe_callTy call_tuple_of (by rfl) mt (by decide +kernel) (pa_cons (pv 10) pa_nil)) pa_nil))))))))))))))), ?_⟩
    -- width
    refine ⟨_, rfl, d, c, ns, 16, rfl, D0, by decide, by decide, fun t H1 ht D1 kp1 => ⟨_, _, rfl, rfl, (by show 7 ≤ sizeLine; decide), fun p1 hp1 => ?_⟩⟩
    refine ⟨_, rfl, d, c, ns, 7, rfl, (((Go.start D0).step D1 kp1).new hp1).drd, by decide, by decide, fun k H2 hk D2 kp2 => ?_⟩
    have g2 : Go d c ns H H2 := (((Go.start D0).step D1 kp1).new hp1).step D2 kp2
    obtain ⟨W, hv, w1, w16⟩ := draw_wf (t := t) (by omega) (k := k) (by omega)
    refine ⟨p1, _, _, _, rfl, rfl, .of (kp2 p1 _ upd_same (D1.ne hp1)), atI_nat hv, ?_⟩
    -- params
    refine ⟨_, rfl, d, c, ns, 7, rfl, g2.drd, by decide, by decide, fun t3 H3 ht3 D3 kp3 => ⟨(by show 5 ≤ sizeLine; decide), fun p3 hp3 => ?_⟩⟩
    refine ⟨_, rfl, d, c, ns, 5, rfl, ((g2.step D3 kp3).new hp3).drd, by decide, by decide, fun k4 H4 hk4 D4 kp4 => ?_⟩
    have g4 : Go d c ns H H4 := ((g2.step D3 kp3).new hp3).step D4 kp4
    obtain ⟨pr, hv4, pr6⟩ := draw_pr (t := t3) (by omega) (k := k4) (by omega)
    refine ⟨p3, _, _, _, rfl, rfl, .of (kp4 p3 _ upd_same (D3.ne hp3)), atI_nat hv4, ?_⟩
    -- variables
    refine ⟨(by show 6 ≤ sizeLine; decide), fun a0 ha0 => ⟨(by show 7 ≤ sizeLine; decide), fun a1 ha1 => ⟨(by show 2 ≤ sizeLine; decide), fun a2 ha2 => ?_⟩⟩⟩
    refine ⟨_, rfl, d, c, ns, 2, rfl, (((g4.new ha0).new ha1).new ha2).drd, by decide, by decide, fun k5 H5 hk5 D5 kp5 => ?_⟩
    have g5 : Go d c ns H H5 := (((g4.new ha0).new ha1).new ha2).step D5 kp5
    have n01 : a0 ≠ a1 := ne_of_none upd_same ha1
    have n12 : a1 ≠ a2 := ne_of_none upd_same ha2
    have n02 : a0 ≠ a2 := ne_of_none (by rw [upd_ne n01]; exact upd_same) ha2
    have d0 : a0 ≠ d := g4.drd.ne ha0
    have d1 : a1 ≠ d := (g4.new ha0).drd.ne ha1
    have d2 : a2 ≠ d := ((g4.new ha0).new ha1).drd.ne ha2
    obtain ⟨pp, L, hv5, hL, ppd, L2, L7, Llt⟩ : ∃ (pp : Addr) (L : List Nat), ([.ref a0, .ref a1] : List V)[k5]? = some (.ref pp) ∧ H5 pp = some (.lst (iv L)) ∧ pp ≠ d ∧ 2 ≤ L.length ∧ L.length ≤ 7 ∧ ∀ x ∈ L, x < 100 := by
      have h2 : k5 < 2 := by omega
      match k5, h2 with
      | 0, _ => exact ⟨a0, vars0, rfl, kp5 a0 _ (by rw [upd_ne n02, upd_ne n01]; exact upd_same) d0, d0, by decide, by decide, by decide⟩
      | 1, _ => exact ⟨a1, vars1, rfl, kp5 a1 _ (by rw [upd_ne n12]; exact upd_same) d1, d1, by decide, by decide, by decide⟩
      | k + 2, h => omega
    refine ⟨a2, _, _, _, rfl, rfl, .of (kp5 a2 _ upd_same d2), atI_nat hv5, ?_⟩
    refine ⟨_, rfl, d, c, ns, 6, rfl, g5.drd, by decide, by decide, fun t6 H6 ht6 D6 kp6 => ⟨_, _, rfl, rfl, ((2 + t6 : Nat) : Int), congrArg V.int (by omega), pp, _, rfl, .of (kp6 pp _ hL ppd), fun vl hvl => ?_⟩⟩
    have g6 : Go d c ns H H6 := g5.step D6 kp6
    have ec : cutV (iv L) none (some ((2 + t6 : Nat) : Int)) = iv (L.take (2 + t6)) := by rw [cut_to, iv_take]
    -- p
    intro pa hpa
    refine ⟨_, rfl, _, rfl, _, rfl, upd_same, pKv d W vl, rfl, (by show 3 ≤ 15; decide), ?_⟩
    have g8 := (g6.new hvl).new2 (u := .dK (mergeK [] (pKv d W vl))) (o := .dK []) hpa
    have nvp : vl ≠ pa := ne_of_none upd_same hpa
    have M8 : Mk (upd (upd (upd H6 vl (.lst (cutV (iv L) none (some ((2 + t6 : Nat) : Int))))) pa (.dK [])) pa (.dK (mergeK [] (pKv d W vl)))) pa d c vl ns W (L.take (2 + t6)) :=
      ⟨g8.drd, upd_same, by rw [upd_ne nvp, upd_ne nvp, upd_same, ec], by rw [List.length_take]; omega, by rw [List.length_take]; omega, fun x hx => Llt x (List.mem_of_mem_take hx), w1, w16⟩
    -- count
    refine ⟨_, rfl, _, rfl, d, c, ns, nb, rfl, g8.drd, by omega, by omega, fun t9 H9 ht9 D9 kp9 => ⟨_, _, rfl, rfl, ?_⟩⟩
    have g9 : Go d c ns H H9 := g8.step D9 kp9
    have M9 : Mk H9 pa d c vl ns W (L.take (2 + t6)) := M8.next D9 kp9
    have en : ((1 : Int) + (t9 : Int)).toNat = 1 + t9 := by omega
    -- labels
    refine ⟨_, rfl, _, rfl, by omega, by omega, fun la hla => lc_range (lo := 0) (n := ((1 : Int) + (t9 : Int)).toNat) (fun i H' => H' la = some (.lst (iv ((List.range i).map fun k => 3 + 5 * k))) ∧ Go d c ns H9 H') ⟨upd_same, (Go.start D9).new hla⟩ ?_ ?_⟩
    · rintro i H' hi ⟨hl, gg⟩
      refine ⟨rfl, ?_⟩
      refine tYes_go ?_
      refine ⟨_, rfl, _, _, rfl, rfl, .inl ⟨by decide, by decide⟩, _, _, rfl, rfl, _, hl, ?_, ?_, Go.own D9 gg hla⟩
      · rw [List.length_map, List.length_map, List.length_range]
        exact small1000 (by omega)
      · rw [upd_same, labs_succ]
        have e5 : ((3 + 5 * i : Nat) : Int) = 3 + 5 * (0 + (i : Int)) := by omega
        rw [e5]
    rintro H10 ⟨hl10, g10⟩
    rw [en] at hl10
    have lad : la ≠ d := D9.ne hla
    -- labels turned round
    refine ⟨fun σ' H' => ∃ (la : Addr) (ls : List Nat), σ' = [some (.ref d), some (.int (nb : Int)), some (.int (mo : Int)), some (.int (W : Int)), some (.int (pr : Int)), some (.ref vl), some (.ref pa), some (.int (1 + (t9 : Int))), none, some (.ref la), none, none, none, none, none, none, none] ∧
      Go d c ns H9 H' ∧ H' la = some (.lst (iv ls)) ∧ la ≠ d ∧ ls.length = 1 + t9 ∧ ls.Nodup ∧ ∀ x ∈ ls, x < 1000, ?_, ?_⟩
    · refine ⟨_, rfl, d, c, ns, 3, rfl, g10.drd, by decide, by decide, fun z H11 hz D11 kp11 => ⟨rfl, _, rfl, ite2 (fun e => ?_) (fun e => ?_)⟩⟩
      · have g11 : Go d c ns H9 H11 := g10.step D11 kp11
        have hl11 : H11 la = some (.lst (iv ((List.range (1 + t9)).map fun k => 3 + 5 * k))) := kp11 la _ hl10 lad
        refine ⟨_, rfl, _, rfl, by omega, by omega, fun lb hlb => lc_range (lo := 0) (n := ((1 : Int) + (t9 : Int)).toNat) (fun i H' => H' lb = some (.lst (iv ((List.range i).map fun k => 3 + 5 * (t9 - k)))) ∧ Go d c ns H11 H') ⟨upd_same, (Go.start D11).new hlb⟩ ?_ ?_⟩
        · rintro i H' hi ⟨hl, gg⟩
          refine ⟨rfl, ?_⟩
          refine tYes_go ?_
          have hj : t9 - i < ((List.range (1 + t9)).map fun k => 3 + 5 * k).length := by
            rw [List.length_map, List.length_range]
            omega
          refine ⟨_, rfl, _, rfl, _, _, rfl, rfl, _, rfl, _, _, rfl, rfl, la, _, _, _, rfl, rfl, .of (gg.keep la _ hl11 lad), at_of (j := t9 - i) (by omega) (iv_get hj), _, hl, ?_, ?_, Go.own D11 gg hlb⟩
          · rw [List.length_map, List.length_map, List.length_range]
            exact small1000 (by omega)
          · rw [upd_same, labs_succ, List.getElem_map, List.getElem_range]
        · rintro H' ⟨hl, gg⟩
          rw [en] at hl
          refine ⟨lb, _, rfl, g11.trans gg, hl, D11.ne hlb, by rw [List.length_map, List.length_range], nd_inj (fun a b h1 h2 => by omega), fun x hx => ?_⟩
          obtain ⟨k, hk, rfl⟩ := List.mem_map.mp hx
          omega
      · refine ⟨la, _, rfl, g10.step D11 kp11, kp11 la _ hl10 lad, lad, by rw [List.length_map, List.length_range], nd_inj (fun a b h1 h2 => by omega), fun x hx => ?_⟩
        obtain ⟨k, hk, rfl⟩ := List.mem_map.mp hx
        have := List.mem_range.mp hk
        omega
    rintro σ' H12 ⟨la, ls, rfl, g12, hl12, lad, ll, lnd, llt⟩
    have M12 : Mk H12 pa d c vl ns W (L.take (2 + t6)) := g12.toMk M9
    -- rows = []
    refine ⟨Nat.zero_le _, fun ra hra => ?_⟩
    have rad : ra ≠ d := g12.drd.ne hra
    refine ⟨_, rfl, _, rfl, by omega, by omega, for_range (lo := 0) (n := ((1 : Int) + (t9 : Int)).toNat) (fun i σ H' => ∃ (y8 y11 y12 y13 y14 y15 : Option V) (vs : List V) (bs : List Bl), σ = [some (.ref d), some (.int (nb : Int)), some (.int (mo : Int)), some (.int (W : Int)), some (.int (pr : Int)), some (.ref vl), some (.ref pa), some (.int (1 + (t9 : Int))), y8, some (.ref la), some (.ref ra), y11, y12, y13, y14, y15, none] ∧
        Go d c ns H12 H' ∧ H' ra = some (.lst vs) ∧ Paired (BlAt H') bs vs ∧ bs.map (·.label) = ls.take i ∧ ∀ b ∈ bs, BlOk W mo ls.tail b)
      ⟨none, none, none, none, none, none, [], [], rfl, (Go.start g12.drd).new hra, upd_same, .nil, rfl, fun b hb => by cases hb⟩ ?_ ?_⟩
    · rintro i σ H13 hi ⟨y8, y11, y12, y13, y14, y15, vs, bs, rfl, g13, hr13, pr13, lab, okb⟩
      rw [en] at hi
      have hil : i < ls.length := by omega
      have M13 : Mk H13 pa d c vl ns W (L.take (2 + t6)) := g13.toMk M12
      have lvs : vs.length = i := by
        have q1 := pr13.length
        have q2 : (bs.map (·.label)).length = (ls.take i).length := by rw [lab]
        rw [List.length_map, List.length_take] at q2
        omega
      -- body
      refine ⟨_, rfl, _, rfl, _, _, rfl, rfl, d, c, ns, _, rfl, g13.drd, by omega, by omega, fun t14 H14 ht14 D14 kp14 => ⟨_, rfl, by omega, by omega, fun Db hDb => lc_range (lo := 0) (n := ((t14 : Nat) : Int).toNat) (fun j H' => ∃ (vs2 : List V) (ss : List Sm), H' Db = some (.lst vs2) ∧ Paired (SmAt H') ss vs2 ∧ ss.length = j ∧ (∀ s ∈ ss, SmOk W s) ∧ Go d c ns H14 H')
        ⟨[], [], upd_same, .nil, rfl, (fun b hb => by cases hb), (Go.start D14).new hDb⟩ ?_ ?_⟩⟩
      · rintro j H' hj ⟨vs2, ss, hD', ps, lss, oks, gg⟩
        rw [Int.toNat_natCast] at hj
        refine ⟨rfl, ?_⟩
        refine tYes_go ?_
        have dbd : Db ≠ d := D14.ne hDb
        refine ⟨_, rfl, pa, d, c, vl, ns, W, L.take (2 + t6), rfl, gg.toMk (M13.next D14 kp14), fun s v H15 ok at_ M15 kp15 => ?_⟩
        have hD15 : H15 Db = some (.lst vs2) := kp15 Db _ hD' dbd
        refine ⟨vs2, hD15, ?_, vs2 ++ [v], ss ++ [s], upd_same, prd_snoc (Sms.mono ((Tups.keep gg.drd kp15).trans (Tups.lst hD15)) ps) (at_.mono (Tups.lst hD15)), by rw [List.length_append, lss]; rfl, ?_, Go.own D14 (gg.step M15.drd kp15) hDb⟩
        · have := ps.length
          exact small1000 (by omega)
        · intro s' hs'
          rcases List.mem_append.mp hs' with h | h
          · exact oks s' h
          · rw [List.mem_singleton.mp h]
            exact ok
      rintro H16 ⟨vs2, ss, hD16, ps16, lss, oks, g16⟩
      rw [Int.toNat_natCast] at lss
      have dbd : Db ≠ d := D14.ne hDb
      have gA : Go d c ns H13 H16 := ((Go.start g13.drd).step D14 kp14).trans g16
      -- what
      refine ⟨_, rfl, d, c, ns, 4, rfl, g16.drd, by decide, by decide, fun wh H17 hwh D17 kp17 => ?_⟩
      have gB : Go d c ns H13 H17 := gA.step D17 kp17
      have gC : Go d c ns H12 H17 := g13.trans gB
      have M17 : Mk H17 pa d c vl ns W (L.take (2 + t6)) := gC.toMk M12
      have hl17 : H17 la = some (.lst (iv ls)) := gC.keep la _ hl12 lad
      -- later
      refine ⟨_, rfl, _, rfl, _, _, rfl, rfl, ((i + 1 : Nat) : Int), congrArg V.int (by omega), la, _, rfl, .of hl17, fun lt hlt => ?_⟩
      have el : cutV (iv ls) (some ((i + 1 : Nat) : Int)) none = iv (ls.drop (i + 1)) := by rw [cut_from, iv_drop]
      have ltd : lt ≠ d := D17.ne hlt
      have hlt0 : (upd H17 lt (.lst (cutV (iv ls) (some ((i + 1 : Nat) : Int)) none))) lt = some (.lst (iv (ls.drop (i + 1)))) := by rw [upd_same, el]
      have g18 : Go d c ns H17 (upd H17 lt (.lst (cutV (iv ls) (some ((i + 1 : Nat) : Int)) none))) := (Go.start D17).new hlt
      have dropT : ∀ x ∈ ls.drop (i + 1), x ∈ ls.tail := fun x hx => by
        rw [← List.drop_one]
        rw [Nat.add_comm, ← List.drop_drop] at hx
        exact List.mem_of_mem_drop hx
      -- the end
      refine ⟨fun σ' H' => ∃ (y15 : Option V) (v : V) (e : En), σ' = [some (.ref d), some (.int (nb : Int)), some (.int (mo : Int)), some (.int (W : Int)), some (.int (pr : Int)), some (.ref vl), some (.ref pa), some (.int (1 + (t9 : Int))), some (.int (0 + (i : Int))), some (.ref la), some (.ref ra), some (.ref Db), some (.int (wh : Int)), some (.ref lt), some v, y15, none] ∧
          Go d c ns H17 H' ∧ EnAt H' e v ∧ EnOk W ls.tail e, ?_, ?_⟩
      · refine ⟨_, rfl, Nat.zero_le _, fun pe hpe => ?_⟩
        have nlp : lt ≠ pe := ne_of_none hlt0 hpe
        have hlt1 : ∀ o, (upd (upd H17 lt (.lst (cutV (iv ls) (some ((i + 1 : Nat) : Int)) none))) pe o) lt = some (.lst (iv (ls.drop (i + 1)))) := fun o => by rw [upd_ne nlp, hlt0]
        have g19 := g18.new (o := .lst []) hpe
        have M19 := g19.toMk M17
        refine ⟨_, .list [], .lst (.of (hlt1 _)) (dp_iv _), .lst (.of upd_same) .nil, sh_iv _, (by decide +kernel), _, rfl, ite2 (fun e1 => iteT ?_) (fun e1 => ?_)⟩
        · refine ⟨_, rfl, pa, d, c, vl, ns, W, L.take (2 + t6), rfl, M19, fun e v H20 ok dp at_ M20 kp20 => ⟨(by show 2 ≤ sizeLine; decide), fun p hp => ?_⟩⟩
          exact ⟨y15, .ref p, .ret e, rfl, (g19.step M20.drd kp20).new hp, ⟨p, v, rfl, upd_same, at_.mono (Tups.of (same_new hp))⟩, ok, Nat.le_succ_of_le dp⟩
        refine ⟨_, rfl, rfl, _, rfl, ite2 (fun e2 => ?_) (fun e2 => ?_)⟩
        · refine ⟨_, rfl, pa, d, c, vl, ns, W, L.take (2 + t6), rfl, M19, fun e v H20 ok dp at_ M20 kp20 => ⟨(by show 2 ≤ sizeLine; decide), fun p hp => ?_⟩⟩
          exact ⟨y15, .ref p, .ret e, rfl, (g19.step M20.drd kp20).new hp, ⟨p, v, rfl, upd_same, at_.mono (Tups.of (same_new hp))⟩, ok, Nat.le_succ_of_le dp⟩
        have hne : 0 < (ls.drop (i + 1)).length := by
          cases hq : ls.drop (i + 1) with
          | nil =>
            rw [hq] at e1
            exact absurd rfl e1
          | cons x r => exact Nat.succ_pos _
        have hle : (ls.drop (i + 1)).length ≤ 40 := by
          rw [List.length_drop]
          omega
        have hlen := iv_len (ls.drop (i + 1))
        refine ⟨_, rfl, rfl, _, rfl, ite2 (fun e3 => ?_) (fun e3 => ?_)⟩
        · refine ⟨_, rfl, _, rfl, _, rfl, lt, _, rfl, .inl (.of (hlt1 _)), d, c, ns, _, rfl, g19.drd, by omega, by omega, fun z H21 hz D21 kp21 => ?_⟩
          have hzl : z < (ls.drop (i + 1)).length := by omega
          refine ⟨lt, _, _, _, rfl, rfl, .of (kp21 lt _ (hlt1 _) ltd), atI_nat (iv_get hzl), (by show 2 ≤ sizeLine; decide), fun p hp => ?_⟩
          exact ⟨y15, .ref p, .go (ls.drop (i + 1))[z], rfl, (g19.step D21 kp21).new hp, ⟨p, rfl, upd_same⟩, dropT _ (List.getElem_mem hzl)⟩
        · -- other
          refine ⟨fun σ' H' => ∃ o : Nat, σ' = [some (.ref d), some (.int (nb : Int)), some (.int (mo : Int)), some (.int (W : Int)), some (.int (pr : Int)), some (.ref vl), some (.ref pa), some (.int (1 + (t9 : Int))), some (.int (0 + (i : Int))), some (.ref la), some (.ref ra), some (.ref Db), some (.int (wh : Int)), some (.ref lt), y14, some (.int (o : Int)), none] ∧
              Go d c ns H17 H' ∧ H' lt = some (.lst (iv (ls.drop (i + 1)))) ∧ o ∈ ls.tail, ?_, ?_⟩
          · refine ⟨_, rfl, d, c, ns, 3, rfl, g19.drd, by decide, by decide, fun z H21 hz D21 kp21 => ⟨rfl, _, rfl, ite2 (fun e4 => ?_) (fun e4 => ?_)⟩⟩
            · have hl21 : H21 la = some (.lst (iv ls)) := (g19.step D21 kp21).keep la _ hl17 lad
              refine ⟨_, rfl, 1, rfl, la, _, rfl, .of hl21, fun l1 hl1 => ?_⟩
              have e1c : cutV (iv ls) (some ((1 : Nat) : Int)) none = iv (ls.drop 1) := by rw [cut_from, iv_drop]
              have hl1' : (upd H21 l1 (.lst (cutV (iv ls) (some 1) none))) l1 = some (.lst (iv (ls.drop 1))) := upd_same.trans (congrArg (fun z => some (HO.lst z)) e1c)
              have nl1 : lt ≠ l1 := ne_of_none (kp21 lt _ (hlt1 _) ltd) hl1
              have l1d : l1 ≠ d := D21.ne hl1
              have hd1 : (ls.drop 1).length = t9 := by
                rw [List.length_drop]
                omega
              have hd2 : (ls.drop (i + 1)).length = t9 - i := by
                rw [List.length_drop]
                omega
              refine ⟨_, rfl, _, rfl, _, _, rfl, rfl, d, c, ns, _, rfl, D21.same (same_new hl1), by omega, by omega, fun z2 H22 hz2 D22 kp22 => ?_⟩
              have hzl : z2 < (ls.drop 1).length := by omega
              refine ⟨l1, _, _, _, rfl, rfl, .of (kp22 l1 _ hl1' l1d), atI_nat (iv_get hzl), ?_⟩
              refine ⟨(ls.drop 1)[z2], rfl, ((g19.step D21 kp21).new hl1).step D22 kp22, kp22 lt _ (by rw [upd_ne nl1]; exact kp21 lt _ (hlt1 _) ltd) ltd, ?_⟩
              have hm : ∀ x, x ∈ ls.drop 1 → x ∈ ls.tail := fun x h => by
                rw [List.drop_one] at h
                exact h
              exact hm _ (List.getElem_mem hzl)
            · have hlt2 := kp21 lt _ (hlt1 _) ltd
              refine ⟨_, rfl, _, rfl, _, rfl, lt, _, rfl, .inl (.of hlt2), d, c, ns, _, rfl, D21, by omega, by omega, fun z2 H22 hz2 D22 kp22 => ?_⟩
              have hzl : z2 < (ls.drop (i + 1)).length := by omega
              refine ⟨lt, _, _, _, rfl, rfl, .of (kp22 lt _ hlt2 ltd), atI_nat (iv_get hzl), ?_⟩
              exact ⟨(ls.drop (i + 1))[z2], rfl, (g19.step D21 kp21).step D22 kp22, kp22 lt _ hlt2 ltd, dropT _ (List.getElem_mem hzl)⟩
          · rintro σ' H23 ⟨o, rfl, g23, hlt3, om⟩
            refine ⟨_, rfl, pa, d, c, vl, ns, W, L.take (2 + t6), rfl, g23.toMk M17, fun e v H24 ok dp at_ M24 kp24 => ?_⟩
            have hlt4 := kp24 lt _ hlt3 ltd
            refine ⟨_, rfl, _, rfl, _, rfl, _, rfl, lt, _, rfl, .inl (.of hlt4), d, c, ns, _, rfl, M24.drd, by omega, by omega, fun z2 H25 hz2 D25 kp25 => ?_⟩
            have hzl : z2 < (ls.drop (i + 1)).length := by omega
            refine ⟨lt, _, _, _, rfl, rfl, .of (kp25 lt _ hlt4 ltd), atI_nat (iv_get hzl), (by show 4 ≤ sizeLine; decide), fun p hp => ?_⟩
            exact ⟨_, .ref p, .iff e o (ls.drop (i + 1))[z2], rfl, ((g23.step M24.drd kp24).step D25 kp25).new hp, ⟨p, v, rfl, upd_same, (at_.mono (Tups.keep M24.drd kp25)).mono (Tups.of (same_new hp))⟩, ⟨ok, dp⟩, om, dropT _ (List.getElem_mem hzl)⟩
      · rintro σ' H26 ⟨y15', v, e, rfl, g26, at_, oken⟩
        have gD : Go d c ns H12 H26 := gC.trans g26
        have gE : Go d c ns H13 H26 := gB.trans g26
        have hl26 : H26 la = some (.lst (iv ls)) := gD.keep la _ hl12 lad
        have hD26 : H26 Db = some (.lst vs2) := g26.keep Db _ (kp17 Db _ hD16 dbd) dbd
        have hr26 : H26 ra = some (.lst vs) := gE.keep ra _ hr13 rad
        refine ⟨_, rfl, .inl ⟨rfl, _, .of hr26⟩, _, rfl, _, rfl, la, _, _, _, rfl, rfl, .of hl26, at_of (j := i) (by omega) (iv_get hil), _, rfl, Db, _, rfl, .inl ⟨.of hD26, fun tb htb => ?_⟩⟩
        refine ⟨_, rfl, (by show 3 ≤ sizeLine; decide), fun tp htp => ?_⟩
        have ntb : tb ≠ tp := ne_of_none upd_same htp
        have nr1 : ra ≠ tb := ne_of_none hr26 htb
        have nr2 : ra ≠ tp := ne_of_none (by rw [upd_ne nr1]; exact hr26) htp
        have hr28 : ∀ o o', (upd (upd H26 tb o) tp o') ra = some (.lst vs) := fun o o' => by rw [upd_ne nr2, upd_ne nr1]; exact hr26
        refine ⟨ra, _, _, rfl, rfl, hr28 _ _, small1000 (by omega), ?_⟩
        have tu1 : ∀ o o' xs, Tups H26 (upd (upd (upd H26 tb o) tp o') ra (.lst xs)) := fun o o' xs => ((Tups.of (same_new htb)).trans (fun b zs q => by
          by_cases hb : b = tp
          · subst hb
            exfalso
            have := htp
            by_cases hc : b = tb
            · exact ntb hc.symm
            · rw [upd_ne hc] at q
              rw [upd_ne hc] at this
              rw [q] at this
              cases this
          · rw [upd_ne hb]
            exact q)).trans (Tups.lst (hr28 o o'))
        refine ⟨_, _, _, _, _, _, vs ++ [.ref tp], bs ++ [⟨ls[i], ss, e⟩], rfl, Go.own g12.drd ((gD.new htb).new htp) hra, upd_same, ?_, ?_, ?_⟩
        · refine prd_snoc (Bls.mono ((Go.tups g13.drd gE).trans (tu1 _ _ _)) pr13) ⟨tp, tb, v, vs2, rfl, ?_, ?_, ?_, at_.mono (tu1 _ _ _)⟩
          · rw [upd_ne nr2.symm]
            exact upd_same
          · rw [upd_ne nr1.symm, upd_ne ntb]
            exact upd_same
          · exact Sms.mono ((Tups.keep g16.drd kp17).trans ((Go.tups D17 g26).trans (tu1 _ _ _))) ps16
        · rw [List.map_append, lab, List.take_add_one, List.getElem?_eq_getElem hil]
          rfl
        · intro b hb
          rcases List.mem_append.mp hb with h | h
          · exact okb b h
          · rw [List.mem_singleton.mp h]
            exact ⟨oks, by show ss.length ≤ mo; omega, oken⟩
    · rintro σ H27 ⟨y8, y11, y12, y13, y14, y15, vs, bs, rfl, g27, hr27, pr27, lab, okb⟩
      rw [en] at lab
      have elb : bs.map (·.label) = ls := by
        rw [lab]
        exact List.take_of_length_le (by omega)
      have lbs : bs.length = 1 + t9 := by
        have := congrArg List.length elb
        rw [List.length_map] at this
        omega
      refine ⟨_, rfl, _, rfl, _, rfl, ra, _, rfl, .inl ⟨.of hr27, fun tb htb => ⟨(by show 3 ≤ sizeLine; decide), fun tp htp => ?_⟩⟩⟩
      have ntb : tb ≠ tp := ne_of_none upd_same htp
      have gF := (((g9.trans g12).trans g27).new htb).new (o := .tup [.int (W : Int), .int (pr : Int), .ref tb]) htp
      refine q ⟨W, pr, bs⟩ (.ref tp) _ ⟨w1, w16, pr6, by show 1 ≤ bs.length; omega, by show bs.length ≤ nb; omega, by show (bs.map (·.label)).Nodup; rw [elb]; exact lnd, ?_, ?_⟩ ⟨tp, tb, vs, rfl, upd_same, by rw [upd_ne ntb]; exact upd_same, ?_⟩ gF.drd gF.keep
      · intro b hb
        have : b.label ∈ bs.map (·.label) := List.mem_map_of_mem hb
        rw [elb] at this
        exact llt _ this
      · intro b hb
        show BlOk W mo (bs.map (·.label)).tail b
        rw [elb]
        exact okb b hb
      · exact Bls.mono ((Tups.of (same_new htb)).trans (Tups.of (same_new htp))) pr27
end
end K0

set_option Elab.async false
set_option linter.all false
set_option maxRecDepth 100000
set_option maxHeartbeats 1000000
namespace K0
open PySem L2
def gOf (op : Str) : G := (ops.lookup op).getD gAdd
theorem look_in : ∀ {l : List (Str × G)} {op : Str}, op ∈ l.map (·.1) → (op, (l.lookup op).getD gAdd) ∈ l
  | [], op, h => by cases h
  | (k, g) :: r, op, h => by
    rw [List.lookup_cons]
    by_cases e : op = k
    · subst e
      rw [beq_self_eq_true]
      exact List.mem_cons_self
    · have e' : (op == k) = false := beq_eq_false_iff_ne.mpr e
      rw [e']
      have h' : op ∈ r.map (·.1) := by
        rcases List.mem_cons.mp h with q | q
        · exact absurd q e
        · exact q
      exact List.mem_cons_of_mem _ (look_in h')
theorem gOf_mem {op : Str} (h : op ∈ ops.map (·.1)) : (op, gOf op) ∈ ops := look_in h
theorem mem12 {op : Str} (h : op ∈ tenS) : op ∈ ops.map (·.1) := by
  show op ∈ tenS ++ (["not", "neg"] : List Str)
  exact List.mem_append_left _ h
theorem mem2 {op : Str} (h : op = "not" ∨ op = "neg") : op ∈ ops.map (·.1) := by
  show op ∈ tenS ++ (["not", "neg"] : List Str)
  rcases h with rfl | rfl
  · exact List.mem_append_right _ (List.mem_cons_self)
  · exact List.mem_append_right _ (List.mem_cons_of_mem _ List.mem_cons_self)
theorem bop_rng {c a b W : Nat} (ha : a < 2 ^ W) (hb : b < 2 ^ W) : 0 ≤ ((bop c a b : Nat) : Int) ∧ ((bop c a b : Nat) : Int) < 2 ^ W := ⟨Int.natCast_nonneg _, wlt (bop_lt ha hb)⟩
theorem two_le {W : Nat} (h1 : 1 ≤ W) : (2 : Int) ≤ 2 ^ W := by
  have h2 : 2 ^ 1 ≤ 2 ^ W := Nat.pow_le_pow_right (by decide) h1
  have := pow_cast W
  omega
theorem g_range {op : Str} {g : G} {W a b : Nat} (h : (op, g) ∈ ops) (h1 : 1 ≤ W) (ha : a < 2 ^ W) (hb : b < 2 ^ W) : 0 ≤ g W a b ∧ g W a b < 2 ^ W := by
  have lp := pow_pos W
  have l2 := two_le h1
  have la := wlt ha
  have em : ∀ z : Int, 0 ≤ z % 2 ^ W ∧ z % 2 ^ W < 2 ^ W := fun z => ⟨Int.emod_nonneg _ (by omega), Int.emod_lt_of_pos _ lp⟩
  simp only [ops, List.mem_cons, List.not_mem_nil, or_false, Prod.mk.injEq] at h
  rcases h with ⟨_, rfl⟩ | ⟨_, rfl⟩ | ⟨_, rfl⟩ | ⟨_, rfl⟩ | ⟨_, rfl⟩ | ⟨_, rfl⟩ | ⟨_, rfl⟩ | ⟨_, rfl⟩ | ⟨_, rfl⟩ | ⟨_, rfl⟩ | ⟨_, rfl⟩ | ⟨_, rfl⟩
  · exact em _
  · exact em _
  · exact em _
  · exact bop_rng ha hb
  · exact bop_rng ha hb
  · exact bop_rng ha hb
  · unfold gShl
    split
    · omega
    · exact em _
  · unfold gShr
    split
    · omega
    · have q1 : 0 ≤ (a : Int) / 2 ^ b := Int.ediv_nonneg (Int.natCast_nonneg _) (Int.le_of_lt (pow_pos b))
      have q2 : (a : Int) / 2 ^ b ≤ a := Int.ediv_le_self _ (Int.natCast_nonneg _)
      omega
  · unfold gLess
    split <;> omega
  · unfold gEqual
    split <;> omega
  · unfold gNot
    omega
  · exact em _
def cw (W : Nat) (op : Str) (a b : Nat) : Nat := (gOf op W a b).toNat
theorem cw_eq {op : Str} {W a b : Nat} (h : op ∈ ops.map (·.1)) (h1 : 1 ≤ W) (ha : a < 2 ^ W) (hb : b < 2 ^ W) : gOf op W a b = (cw W op a b : Int) ∧ cw W op a b < 2 ^ W := by
  obtain ⟨r0, r1⟩ := g_range (gOf_mem h) h1 ha hb
  have e := Int.toNat_of_nonneg r0
  have ep := pow_cast W
  refine ⟨e.symm, ?_⟩
  unfold cw
  omega
/-- the word of an expression -/
def ev (W : Nat) (vars : Nat → Nat) (mem : List Nat) : Ex → Nat
  | .int n => n
  | .var x => vars x
  | .load e => mem.getD (ev W vars mem e % 16) 0
  | .one op e => cw W op (ev W vars mem e) 0
  | .two op e f => cw W op (ev W vars mem e) (ev W vars mem f)
structure Good (W : Nat) (vars : Nat → Nat) (mem : List Nat) : Prop where
  v : ∀ x, vars x < 2 ^ W
  len : mem.length = 16
  m : ∀ z ∈ mem, z < 2 ^ W
theorem Good.get {W : Nat} {vars : Nat → Nat} {mem : List Nat} (g : Good W vars mem) (k : Nat) : mem[k % 16]? = some (mem.getD (k % 16) 0) ∧ mem.getD (k % 16) 0 < 2 ^ W := by
  have h : k % 16 < mem.length := by
    rw [g.len]
    exact Nat.mod_lt _ (by decide)
  have e : mem[k % 16]? = some mem[k % 16] := List.getElem?_eq_getElem h
  rw [List.getD_eq_getElem?_getD, e]
  exact ⟨rfl, g.m _ (List.getElem_mem h)⟩
theorem ev_lt {W : Nat} {vars : Nat → Nat} {mem : List Nat} (h1 : 1 ≤ W) (g : Good W vars mem) : ∀ {e : Ex}, EOk W e → ev W vars mem e < 2 ^ W
  | .int n, h => h
  | .var x, _ => g.v x
  | .load e, _ => (g.get _).2
  | .one op e, ⟨ho, h⟩ => (cw_eq (mem2 ho) h1 (ev_lt h1 g h) (Nat.pow_pos (by decide))).2
  | .two op e f, ⟨ho, h, h2⟩ => (cw_eq (mem12 ho) h1 (ev_lt h1 g h) (ev_lt h1 g h2)).2
structure Rs where
  vars : Nat → Nat
  mem : List Nat
  writes : List Nat
def doS (W : Nat) (r : Rs) : Sm → Rs
  | .set x e => { r with vars := fun y => if y = x then ev W r.vars r.mem e else r.vars y }
  | .write e => { r with writes := r.writes ++ [ev W r.vars r.mem e] }
  | .store a e => { r with mem := r.mem.set (ev W r.vars r.mem a % 16) (ev W r.vars r.mem e) }
theorem doS_good {W : Nat} (h1 : 1 ≤ W) {r : Rs} (g : Good W r.vars r.mem) : ∀ {s : Sm}, SmOk W s → Good W (doS W r s).vars (doS W r s).mem
  | .set x e, ⟨_, h⟩ => ⟨fun y => by
      show (if y = x then ev W r.vars r.mem e else r.vars y) < 2 ^ W
      split
      · exact ev_lt h1 g h.1
      · exact g.v y, g.len, g.m⟩
  | .write e, _ => g
  | .store a e, ⟨_, h⟩ => ⟨g.v, by
      show (r.mem.set _ _).length = 16
      rw [List.length_set]
      exact g.len, fun z hz => by
      rcases List.mem_or_eq_of_mem_set hz with q | q
      · exact g.m z q
      · rw [q]
        exact ev_lt h1 g h.1⟩
/-- the dict of the variables' words -/
def VarsAt (H : Hp) (a : Addr) (f : Nat → Nat) (n : Nat) : Prop := ∃ kvs : List (Key × V), H a = some (.dK kvs) ∧ kvs.length ≤ n ∧ ∀ k : Nat, (valV kvs (Sum.inl (k : Int))).getD (.int 0) = .int (f k : Int)
end K0

set_option Elab.async false
set_option linter.all false
set_option maxRecDepth 100000
set_option maxHeartbeats 1000000
namespace K0
open PySem L2
theorem VarsAt.same {H H' : Hp} {a : Addr} {f : Nat → Nat} {n : Nat} (s : Same H H') : VarsAt H a f n → VarsAt H' a f n := fun ⟨kvs, e, l, h⟩ => ⟨kvs, s _ _ e, l, h⟩
def spV : Nat → Sp
  | 0 => fun _ _ _ _ => False
  | n + 1 => fun vs H Q _ => ∃ (W : Nat) (v : V) (da ma : Addr) (vars : Nat → Nat) (mem : List Nat) (e : Ex) (m : Nat), vs = [.int (W : Int), v, .ref da, .ref ma] ∧ 1 ≤ W ∧ W ≤ 16 ∧ ExAt H e v ∧ EOk W e ∧ e.deep ≤ n + 1 ∧
      VarsAt H da vars m ∧ H ma = some (.lst (iv mem)) ∧ Good W vars mem ∧ ∀ H', Same H H' → Q (.int (ev W vars mem e : Int)) H'
theorem nI : ∀ op ∈ tenS, op ≠ "int" ∧ op ≠ "var" ∧ op ≠ "load" := by decide +kernel
theorem dN {a b : Str} (h : ¬ a = b) : ¬ decide (V.str a = V.str b) = true := by
  rw [dS h]
  decide
theorem nots {op : Str} (h : op = "not" ∨ op = "neg") : op ≠ "int" ∧ op ≠ "var" ∧ op ≠ "load" := by
  rcases h with rfl | rfl <;> decide +kernel
section
variable {P : Program} {w : World} {K : PySem.W.Frag} {mg : Str → Option Value} {base : Heap}
theorem scVal : FnScope ["w", "e", "variables", "memory", "x"] ["w", "e", "variables", "memory"] (defScope sVal) := ⟨rfl, rfl, rfl, by decide +kernel, rfl, by decide +kernel, by decide +kernel⟩
theorem ok_val {f : Addr} {fd : FuncData} (F : Fun K "_law_value" "_law_value" sVal f fd) (mE : mg "_law_value" = some (.ref f)) (kE : PySem.W.keepIn K (.ref f) = true) (bE : Binds K fd ["w", "e", "variables", "memory"] []) (ml : mg "len" = none)
    (GC : Got P w K mg base 1 "_law_compute" ["op", "w", "x", "y"] spLC) : ∀ n, FnOk P w K mg base CX0 (2 + n) f fd ["w", "e", "variables", "memory"] (spV n) := by
  obtain ⟨fC, fdC, GC, mC, kC, bC⟩ := GC.ex
  intro n
  induction n with
  | zero => exact (F.ok (k := 1) scVal (fun vs H Q E h => h.elim) (fun cdv A outer s H vs Q E hr h => h.elim))
  | succ n ih =>
    have e0 : 2 + (n + 1) = (2 + n) + 1 := by omega
    rw [e0]
    refine F.ok scVal (fun vs H Q E h => ?_) (fun cdv A outer s H vs Q E hr h => ?_)
    · obtain ⟨W, v, da, ma, vars, mem, e, m, rfl, _⟩ := h
      rfl
    · obtain ⟨W, v, da, ma, vars, mem, e, m, rfl, w1, w16, he, ok, dp, hd, hm, gd, q⟩ := h
      have nd := scVal.nd
      have hu := hu_of hr
      have hr1 : Room 1 _ := hr.mono (by omega)
      refine ⟨_, pss_cons (ps_if (pt_cmpR op_eq (pe_ix ix_tup (pv 1) pe_int (fun _ _ => rfl)) pe_str (nomark _)) (pss_one (ps_ret (pe_ix ix_tup (pv 1) pe_int (fun _ _ => rfl)))) pss_nil)
        (pss_cons (ps_if (pt_cmpR op_eq (pe_ix ix_tup (pv 1) pe_int (fun _ _ => rfl)) pe_str (nomark _)) (pss_one (ps_ret (pe_dget2 hu (pv 2) (pe_ix ix_tup (pv 1) pe_int (fun _ _ => rfl)) pe_int ⟨rfl, rfl, rfl, rfl⟩))) pss_nil)
        (pss_cons (ps_set (i := 4) nd rfl (.inl rfl) (pe_call ih hr (by rfl) mE kE bE .nil pass0 (pa_cons (pv 0) (pa_cons (pe_ix ix_tup (pv 1) pe_int (fun _ _ => rfl)) (pa_cons (pv 2) (pa_cons (pv 3) pa_nil))))))
        (pss_cons (ps_if (pt_cmpR op_eq (pe_ix ix_tup (pv 1) pe_int (fun _ _ => rfl)) pe_str (nomark _)) (pss_one (ps_ret (pe_ix ix_list (pv 3) (pe_op op_mod (pv 4) pe_int) (fun _ _ => rfl)))) pss_nil)
        (pss_cons (ps_if (pt_cmpR op_eq (pe_callB call_len_seq (by rfl) ml PySem.boot_len (pa_cons (pv 1) pa_nil)) pe_int (nomark _)) (pss_one (ps_ret (pe_call GC hr1 (by rfl) mC kC bC .nil pass0 (pa_cons (pe_ix ix_tup (pv 1) pe_int (fun _ _ => rfl)) (pa_cons (pv 0) (pa_cons (pv 4) (pa_cons pe_int pa_nil))))))) pss_nil)
        (pss_one (ps_ret (pe_call GC hr1 (by rfl) mC kC bC .nil pass0 (pa_cons (pe_ix ix_tup (pv 1) pe_int (fun _ _ => rfl)) (pa_cons (pv 0) (pa_cons (pv 4) (pa_cons (pe_call ih hr (by rfl) mE kE bE .nil pass0 (pa_cons (pv 0) (pa_cons (pe_ix ix_tup (pv 1) pe_int (fun _ _ => rfl)) (pa_cons (pv 2) (pa_cons (pv 3) pa_nil))))) pa_nil))))))))))), ?_⟩
      have qs := q H (Same.refl H)
      cases e with
      | int k =>
        obtain ⟨a, rfl, ha⟩ := he
        refine ⟨_, rfl, a, _, _, _, rfl, rfl, .of ha, atI_nat (j := 0) rfl, rfl, _, rfl, ite2 (fun _ => ?_) (fun e => absurd dT e)⟩
        exact ⟨_, rfl, a, _, _, _, rfl, rfl, .of ha, atI_nat (j := 1) rfl, qs⟩
      | var k =>
        obtain ⟨a, rfl, ha⟩ := he
        obtain ⟨kvs, hk, lk, hv⟩ := hd
        refine ⟨_, rfl, a, _, _, _, rfl, rfl, .of ha, atI_nat (j := 0) rfl, rfl, _, rfl, ite2 (fun e => absurd e (dN (by decide +kernel))) (fun _ => ?_)⟩
        refine ⟨_, rfl, a, _, _, _, rfl, rfl, .of ha, atI_nat (j := 0) rfl, rfl, _, rfl, ite2 (fun _ => ?_) (fun e => absurd dT e)⟩
        refine ⟨_, rfl, da, rfl, .inl ⟨kvs, .of hk⟩, _, rfl, a, _, _, _, rfl, rfl, .of ha, atI_nat (j := 1) rfl, _, DGet.k (k := Sum.inl (k : Int)) hk, ?_⟩
        rw [hv k]
        exact qs
      | load e =>
        obtain ⟨a, u, rfl, ha, he⟩ := he
        obtain ⟨n, rfl⟩ : ∃ k, n = k + 1 := ⟨n - 1, by have : e.deep + 1 ≤ n + 1 := dp; have : 1 ≤ e.deep := (by cases e <;> exact Nat.le_add_left 1 _); omega⟩
        refine ⟨_, rfl, a, _, _, _, rfl, rfl, .of ha, atI_nat (j := 0) rfl, rfl, _, rfl, ite2 (fun e => absurd e (dN (by decide +kernel))) (fun _ => ?_)⟩
        refine ⟨_, rfl, a, _, _, _, rfl, rfl, .of ha, atI_nat (j := 0) rfl, rfl, _, rfl, ite2 (fun e => absurd e (dN (by decide +kernel))) (fun _ => ?_)⟩
        refine ⟨_, rfl, _, rfl, a, _, _, _, rfl, rfl, .of ha, atI_nat (j := 1) rfl, _, rfl, _, rfl, W, u, da, ma, vars, mem, e, m, rfl, w1, w16, he, ok, Nat.le_of_succ_le_succ dp, hd, hm, gd, fun H1 s1 => ?_⟩
        refine ⟨_, rfl, a, _, _, _, rfl, rfl, .of (s1 _ _ ha), atI_nat (j := 0) rfl, rfl, _, rfl, ite2 (fun _ => ?_) (fun e => absurd dT e)⟩
        have hg := (gd.get (ev W vars mem e)).1
        have hgi : (iv mem)[ev W vars mem e % 16]? = some (.int (mem.getD (ev W vars mem e % 16) 0 : Int)) := by
          rw [List.getElem?_map, hg]
          rfl
        exact ⟨_, rfl, _, rfl, _, _, rfl, rfl, (by show (0 : Int) < 16; decide), ma, _, _, _, rfl, rfl, .of (s1 _ _ hm), at_of (j := ev W vars mem e % 16) (by omega) hgi, q H1 s1⟩
      | one op e =>
        obtain ⟨a, u, rfl, ha, he⟩ := he
        obtain ⟨ho, ok⟩ := ok
        obtain ⟨o1, o2, o3⟩ := nots ho
        obtain ⟨n, rfl⟩ : ∃ k, n = k + 1 := ⟨n - 1, by have : e.deep + 1 ≤ n + 1 := dp; have : 1 ≤ e.deep := (by cases e <;> exact Nat.le_add_left 1 _); omega⟩
        refine ⟨_, rfl, a, _, _, _, rfl, rfl, .of ha, atI_nat (j := 0) rfl, rfl, _, rfl, ite2 (fun e => absurd e (dN o1)) (fun _ => ?_)⟩
        refine ⟨_, rfl, a, _, _, _, rfl, rfl, .of ha, atI_nat (j := 0) rfl, rfl, _, rfl, ite2 (fun e => absurd e (dN o2)) (fun _ => ?_)⟩
        refine ⟨_, rfl, _, rfl, a, _, _, _, rfl, rfl, .of ha, atI_nat (j := 1) rfl, _, rfl, _, rfl, W, u, da, ma, vars, mem, e, m, rfl, w1, w16, he, ok, Nat.le_of_succ_le_succ dp, hd, hm, gd, fun H1 s1 => ?_⟩
        refine ⟨_, rfl, a, _, _, _, rfl, rfl, .of (s1 _ _ ha), atI_nat (j := 0) rfl, rfl, _, rfl, ite2 (fun e => absurd e (dN o3)) (fun _ => ?_)⟩
        refine ⟨_, rfl, a, _, rfl, .inr (.of (s1 _ _ ha)), rfl, _, rfl, ite2 (fun _ => ?_) (fun e => absurd rfl e)⟩
        have l1 := ev_lt w1 gd ok
        have l2 : 0 < 2 ^ W := Nat.pow_pos (by decide)
        have hc := (cw_eq (mem2 ho) w1 l1 l2).1
        refine ⟨_, rfl, a, _, _, _, rfl, rfl, .of (s1 _ _ ha), atI_nat (j := 0) rfl, _, rfl, _, rfl, op, gOf op, W, ev W vars mem e, 0, rfl, gOf_mem (mem2 ho), w1, w16, l1, l2, fun H2 s2 => ?_⟩
        rw [hc]
        exact q H2 (s1.trans s2)
      | two op e e2 =>
        obtain ⟨a, u, y, rfl, ha, he, he2⟩ := he
        obtain ⟨ho, ok, ok2⟩ := ok
        obtain ⟨o1, o2, o3⟩ := nI op ho
        have dd : max e.deep e2.deep + 1 ≤ n + 1 := dp
        obtain ⟨n, rfl⟩ : ∃ k, n = k + 1 := ⟨n - 1, by have : 1 ≤ e.deep := (by cases e <;> exact Nat.le_add_left 1 _); omega⟩
        refine ⟨_, rfl, a, _, _, _, rfl, rfl, .of ha, atI_nat (j := 0) rfl, rfl, _, rfl, ite2 (fun e => absurd e (dN o1)) (fun _ => ?_)⟩
        refine ⟨_, rfl, a, _, _, _, rfl, rfl, .of ha, atI_nat (j := 0) rfl, rfl, _, rfl, ite2 (fun e => absurd e (dN o2)) (fun _ => ?_)⟩
        refine ⟨_, rfl, _, rfl, a, _, _, _, rfl, rfl, .of ha, atI_nat (j := 1) rfl, _, rfl, _, rfl, W, u, da, ma, vars, mem, e, m, rfl, w1, w16, he, ok, by omega, hd, hm, gd, fun H1 s1 => ?_⟩
        refine ⟨_, rfl, a, _, _, _, rfl, rfl, .of (s1 _ _ ha), atI_nat (j := 0) rfl, rfl, _, rfl, ite2 (fun e => absurd e (dN o3)) (fun _ => ?_)⟩
        refine ⟨_, rfl, a, _, rfl, .inr (.of (s1 _ _ ha)), rfl, _, rfl, ite2 (fun e => absurd (V.int.inj (of_decide_eq_true e)) (by show ¬ ((3 : Nat) : Int) = 2; decide)) (fun _ => ?_)⟩
        have l1 := ev_lt w1 gd ok
        have l2 := ev_lt w1 gd ok2
        have hc := (cw_eq (mem12 ho) w1 l1 l2).1
        refine ⟨_, rfl, a, _, _, _, rfl, rfl, .of (s1 _ _ ha), atI_nat (j := 0) rfl, _, rfl, _, rfl, _, rfl, _, rfl, a, _, _, _, rfl, rfl, .of (s1 _ _ ha), atI_nat (j := 2) rfl, _, rfl, _, rfl, W, y, da, ma, vars, mem, e2, m, rfl, w1, w16, he2.mono (Tups.of s1), ok2, by omega, hd.same s1, s1 _ _ hm, gd, fun H2 s2 => ?_⟩
        refine ⟨op, gOf op, W, ev W vars mem e, ev W vars mem e2, rfl, gOf_mem (mem12 ho), w1, w16, l1, l2, fun H3 s3 => ?_⟩
        rw [hc]
        exact q H3 ((s1.trans s2).trans s3)
end
end K0

set_option Elab.async false
set_option linter.all false
set_option maxRecDepth 100000
set_option maxHeartbeats 1000000
namespace K0
open PySem L2
theorem prd_get {α β : Type} {F : α → β → Prop} : ∀ {xs : List α} {ys : List β} {i : Nat} {x : α}, Paired F xs ys → xs[i]? = some x → ∃ y, ys[i]? = some y ∧ F x y
  | _, _, 0, _, .cons h _, e => ⟨_, rfl, by rw [← Option.some.inj e]; exact h⟩
  | _, _, i + 1, _, .cons _ t, e => prd_get (i := i) t e
  | _, _, _, _, .nil, e => by simp at e
theorem prd_get' {α β : Type} {F : α → β → Prop} : ∀ {xs : List α} {ys : List β} {i : Nat} {y : β}, Paired F xs ys → ys[i]? = some y → ∃ x, xs[i]? = some x ∧ F x y
  | _, _, 0, _, .cons h _, e => ⟨_, rfl, by rw [← Option.some.inj e]; exact h⟩
  | _, _, i + 1, _, .cons _ t, e => prd_get' (i := i) t e
  | _, _, _, _, .nil, e => by simp at e
def noBl : Bl := ⟨0, [], .ret (.int 0)⟩
def blk (F : Fn) (l : Nat) : Bl := (F.blocks.find? fun b => b.label == l).getD noBl
theorem find_at : ∀ {bs : List Bl} {j : Nat} {b : Bl}, (bs.map (·.label)).Nodup → bs[j]? = some b → bs.find? (fun x => x.label == b.label) = some b
  | [], j, b, _, h => by simp at h
  | x :: r, 0, b, _, h => by
    have e : x = b := Option.some.inj h
    subst e
    rw [List.find?_cons, beq_self_eq_true]
  | x :: r, j + 1, b, nd, h => by
    have nd' := List.nodup_cons.mp nd
    have hm : b.label ∈ r.map (·.label) := List.mem_map_of_mem (List.mem_of_getElem? h)
    have hne : (x.label == b.label) = false := beq_eq_false_iff_ne.mpr fun e => nd'.1 (by show x.label ∈ _; rw [e]; exact hm)
    rw [List.find?_cons, hne]
    exact find_at nd'.2 h
theorem blk_at {F : Fn} {j : Nat} {b : Bl} (nd : (F.blocks.map (·.label)).Nodup) (h : F.blocks[j]? = some b) : blk F b.label = b := by
  unfold blk
  rw [find_at nd h]
  rfl
theorem lab_ix {F : Fn} {l : Nat} (h : l ∈ F.blocks.map (·.label)) : ∃ (j : Nat) (b : Bl), F.blocks[j]? = some b ∧ b.label = l := by
  obtain ⟨b, hb, rfl⟩ := List.mem_map.mp h
  obtain ⟨j, hj⟩ := List.mem_iff_getElem?.mp hb
  exact ⟨j, b, hj, rfl⟩
structure Ps where
  rs : Rs
  label : Nat
  labels : List Nat
  fin : Option Nat
def doB (W : Nat) (r : Rs) (b : Bl) : Rs := b.body.foldl (doS W) r
def endP (W : Nat) (r : Rs) (p : Ps) : En → Ps
  | .ret e => ⟨r, p.label, p.labels ++ [p.label], some (ev W r.vars r.mem e)⟩
  | .go l => ⟨r, l, p.labels ++ [p.label], none⟩
  | .iff e l m => ⟨r, if ev W r.vars r.mem e ≠ 0 then l else m, p.labels ++ [p.label], none⟩
def stepP (F : Fn) (p : Ps) : Ps := endP F.width (doB F.width p.rs (blk F p.label)) p (blk F p.label).fin
def runP (F : Fn) : Nat → Ps → Ps
  | 0, p => p
  | n + 1, p => match p.fin with
    | some _ => p
    | none => runP F n (stepP F p)
theorem runP_fin {F : Fn} {p : Ps} {z : Nat} (h : p.fin = some z) : ∀ n, runP F n p = p
  | 0 => rfl
  | n + 1 => by
    unfold runP
    rw [h]
theorem runP_step {F : Fn} {p : Ps} (h : p.fin = none) (n : Nat) : runP F (n + 1) p = runP F n (stepP F p) := by
  show (match p.fin with
    | some _ => p
    | none => runP F n (stepP F p)) = _
  rw [h]
theorem stepP_labels (F : Fn) (p : Ps) : (stepP F p).labels = p.labels ++ [p.label] := by
  unfold stepP endP
  split <;> rfl
/-- a run's state stays right -/
structure PsOk (nb mo : Nat) (F : Fn) (p : Ps) : Prop where
  good : Good F.width p.rs.vars p.rs.mem
  lab : p.label ∈ F.blocks.map (·.label)
theorem foldS_good {W : Nat} (h1 : 1 ≤ W) : ∀ {ss : List Sm} {r : Rs}, Good W r.vars r.mem → (∀ s ∈ ss, SmOk W s) → Good W (ss.foldl (doS W) r).vars (ss.foldl (doS W) r).mem
  | [], _, g, _ => g
  | s :: t, r, g, h => foldS_good h1 (r := doS W r s) (doS_good h1 g (h s List.mem_cons_self)) fun x hx => h x (List.mem_cons_of_mem _ hx)
theorem tail_mem {l : List Nat} {x : Nat} (h : x ∈ l.tail) : x ∈ l := List.mem_of_mem_tail h
theorem stepP_ok {nb mo : Nat} {F : Fn} (ok : FnOk' nb mo F) {p : Ps} (h : PsOk nb mo F p) : PsOk nb mo F (stepP F p) := by
  obtain ⟨j, b, hj, hl⟩ := lab_ix h.lab
  have hb : blk F p.label = b := by
    rw [← hl]
    exact blk_at ok.nd hj
  obtain ⟨k1, k2, k3⟩ := ok.ok b (List.mem_of_getElem? hj)
  have g := foldS_good ok.w1 h.good k1
  unfold stepP
  rw [hb]
  cases hf : b.fin with
  | ret e => exact ⟨g, h.lab⟩
  | go l =>
    rw [hf] at k3
    exact ⟨g, tail_mem k3⟩
  | iff e l m =>
    rw [hf] at k3
    refine ⟨g, ?_⟩
    show (if _ then l else m) ∈ _
    split
    · exact tail_mem k3.2.1
    · exact tail_mem k3.2.2
theorem sput {H H' : Hp} {p : Addr} {o : HO} (s : Same H H') (h : H p = none) : Same H (upd H' p o) := fun b u e => by
  rw [upd_ne (ne_of_none e h)]
  exact s b u e
theorem big {n : Nat} (h : n ≤ 100000) : n < sizeLine := Nat.lt_of_le_of_lt h (by decide)
/-- the words written, the end, the labels, as the law tells them -/
def finV : Option Nat → List V
  | some z => [.str "return", .int (z : Int)]
  | none => [.str "none"]
def p0 (F : Fn) (ws : List Nat) : Ps := ⟨⟨fun k => ws.getD k 0, List.replicate 16 0, []⟩, (F.blocks.headD noBl).label, [], none⟩
theorem p0_ok {nb mo : Nat} {F : Fn} (ok : FnOk' nb mo F) {ws : List Nat} (h : ∀ z ∈ ws, z < 2 ^ F.width) : PsOk nb mo F (p0 F ws) := by
  have hp : 0 < 2 ^ F.width := Nat.pow_pos (by decide)
  refine ⟨⟨fun x => ?_, rfl, fun z hz => ?_⟩, ?_⟩
  · show ws.getD x 0 < 2 ^ F.width
    rw [List.getD_eq_getElem?_getD]
    cases e : ws[x]? with
    | none => exact hp
    | some z => exact h z (List.mem_of_getElem? e)
  · rw [List.eq_of_mem_replicate hz]
    exact hp
  · have h1 := ok.b1
    cases hb : F.blocks with
    | nil =>
      rw [hb] at h1
      exact absurd h1 (by decide)
    | cons b r =>
      show (F.blocks.headD noBl).label ∈ (b :: r).map (·.label)
      rw [hb]
      exact List.mem_cons_self
/-- a put into the dict of words -/
theorem VarsAt.put {H : Hp} {a : Addr} {f : Nat → Nat} {n : Nat} {kvs : List (Key × V)} (hl : kvs.length ≤ n) (h : ∀ k : Nat, (valV kvs (Sum.inl (k : Int))).getD (.int 0) = .int (f k : Int)) (x z : Nat) :
    VarsAt (upd H a (.dK (putK kvs (Sum.inl (x : Int)) (.int (z : Int))))) a (fun y => if y = x then z else f y) (n + 1) := by
  refine ⟨_, upd_same, Nat.le_trans (length_putK _ _ _) (by omega), fun k => ?_⟩
  rw [valV_put]
  by_cases e : k = x
  · subst e
    rw [if_pos rfl]
    show _ = V.int ((if k = k then z else f k : Nat) : Int)
    rw [if_pos rfl]
    rfl
  · have e2 : ¬ (Sum.inl (k : Int) : Key) = Sum.inl (x : Int) := fun q => e (by have := Sum.inl.inj q; omega)
    rw [if_neg e2, h k]
    show _ = V.int ((if k = x then z else f k : Nat) : Int)
    rw [if_neg e]
end K0

set_option Elab.async false
set_option linter.all false
set_option maxRecDepth 100000
set_option maxHeartbeats 2000000
namespace K0
open PySem L2
abbrev NR : List Str := ["function", "inputs", "fuel", "w", "variables", "k", "memory", "writes", "labels", "label", "block", "s", "word", "end", "row"]
abbrev NI : List Str := ["draw", "function", "k"]
def spI : Sp := fun vs H Q _ => ∃ (d c : Addr) (ns : List Int) (F : Fn) (v : V), vs = [.ref d, v] ∧ Drd H d c ns ∧ FnAt H F v ∧ 1 ≤ F.width ∧ F.width ≤ 16 ∧ F.params ≤ 6 ∧
  ∀ (ws : List Nat) (ta : Addr) (H' : Hp), ws.length = F.params → (∀ z ∈ ws, z < 2 ^ F.width) → H' ta = some (.tup (iv ws)) → Drd H' d c ns → Keep d H H' → Q (.ref ta) H'
def spR : Sp := fun vs H Q _ => ∃ (nb mo : Nat) (F : Fn) (v : V) (ia : Addr) (ws : List Nat) (fuel : Nat), vs = [v, .ref ia, .int (fuel : Int)] ∧ FnAt H F v ∧ FnOk' nb mo F ∧ nb ≤ 40 ∧ mo ≤ 40 ∧ H ia = some (.tup (iv ws)) ∧
  ws.length ≤ 6 ∧ (∀ z ∈ ws, z < 2 ^ F.width) ∧ fuel ≤ 60 ∧
  ∀ (a wa ea la : Addr) (H' : Hp), Same H H' → H' a = some (.tup [.ref wa, .ref ea, .int ((runP F fuel (p0 F ws)).labels.length : Int), .ref la]) → H' wa = some (.lst (iv (runP F fuel (p0 F ws)).rs.writes)) →
    H' ea = some (.tup (finV (runP F fuel (p0 F ws)).fin)) → H' la = some (.lst (iv (runP F fuel (p0 F ws)).labels)) → Q (.ref a) H'
theorem VarsAt.cong {H : Hp} {a : Addr} {f g : Nat → Nat} {n : Nat} (v : VarsAt H a f n) (h : ∀ k, f k = g k) : VarsAt H a g n := by
  obtain ⟨kvs, e1, e2, e3⟩ := v
  exact ⟨kvs, e1, e2, fun k => by rw [e3 k, h k]⟩
theorem take_getD {ws : List Nat} {i : Nat} (hi : i < ws.length) (k : Nat) : (if k = i then ws[i] else (ws.take i).getD k 0) = (ws.take (i + 1)).getD k 0 := by
  rw [List.getD_eq_getElem?_getD, List.getD_eq_getElem?_getD, List.getElem?_take, List.getElem?_take]
  by_cases e : k = i
  · subst e
    rw [if_pos rfl, if_pos (Nat.lt_succ_self _), List.getElem?_eq_getElem hi]
    rfl
  · rw [if_neg e]
    by_cases h : k < i
    · rw [if_pos h, if_pos (by omega)]
    · rw [if_neg h, if_neg (by omega)]
/-- the values of expressions as the law asks them -/
structure GotV (P : Program) (w : World) (K : PySem.W.Frag) (mg : Str → Option Value) (base : Heap) : Prop where
  ex : ∃ (f : Addr) (fd : FuncData), (∀ n, FnOk P w K mg base CX0 (2 + n) f fd ["w", "e", "variables", "memory"] (spV n)) ∧ mg "_law_value" = some (.ref f) ∧ PySem.W.keepIn K (.ref f) = true ∧ Binds K fd ["w", "e", "variables", "memory"] []
section
variable {P : Program} {w : World} {K : PySem.W.Frag} {mg : Str → Option Value} {base : Heap}
theorem scInp : FnScope NI ["draw", "function"] (defScope sInputs) := ⟨rfl, rfl, rfl, by decide +kernel, rfl, by decide +kernel, by decide +kernel⟩
theorem ok_inputs {f : Addr} {fd : FuncData} (F : Fun K "_law_inputs" "_law_inputs" sInputs f fd) (mr : mg "range" = none) (mt : mg "tuple" = none)
    (GW : Got P w K mg base 2 "_law_word" ["draw", "w"] spWord) : FnOk P w K mg base CX0 3 f fd ["draw", "function"] spI := by
  obtain ⟨fW, fdW, GW, mW, kW, bW⟩ := GW.ex
  refine F.ok scInp (fun vs H Q E h => ?_) (fun cdv A outer s H vs Q E hr h => ?_)
  · obtain ⟨d, c, ns, F, v, rfl, _⟩ := h
    rfl
  · obtain ⟨d, c, ns, F, v, rfl, D0, hF, w1, w16, p6, q⟩ := h
    obtain ⟨a, b, rows, rfl, ha, hb, pr⟩ := hF
    have nd := scInp.nd
    refine ⟨_, (pss_one (ps_ret (pe_callTy call_tuple_of (by rfl) mt (by decide +kernel) (pa_cons (pe_lc (own := [("k", 2)]) (g := gName 2) (tt := tYes) rfl nd (pi_range1 (by rfl) mr (pa_cons (pe_ix (r := rIxT K) ix_tup (pv 1) pe_int (fun _ _ => rfl)) pa_nil)) (blkOk_by (N := NI) (sc := defScope sInputs) (by decide +kernel)) (fun _ _ _ _ _ => pg_name (i := 2) nd rfl (.inl rfl)) (fun _ _ _ _ _ => pts_nil) (fun _ _ _ _ _ => (pe_call GW hr (by rfl) mW kW bW .nil pass0 (pa_cons (pv 0) (pa_cons (pe_ix (r := rIxT K) ix_tup (pv 1) pe_int (fun _ _ => rfl)) pa_nil))))) pa_nil)))), ?_⟩
    refine ⟨_, rfl, a, _, _, _, rfl, rfl, .of ha, atI_nat (j := 1) rfl, _, rfl, by omega, by omega, fun D hD => lc_range (lo := 0) (n := ((F.params : Nat) : Int).toNat) (fun i H' => ∃ ws : List Nat, H' D = some (.lst (iv ws)) ∧ ws.length = i ∧ (∀ z ∈ ws, z < 2 ^ F.width) ∧ Go d c ns H H')
      ⟨[], upd_same, rfl, (fun z hz => by cases hz), (Go.start D0).new hD⟩ ?_ ?_⟩
    · rintro i H' hi ⟨ws, hl, lw, okw, gg⟩
      rw [Int.toNat_natCast] at hi
      refine ⟨rfl, ?_⟩
      refine tYes_go ?_
      have hDd : D ≠ d := D0.ne hD
      have ha' : H' a = some (.tup [.int (F.width : Int), .int (F.params : Int), .ref b]) := Go.tups D0 gg _ _ ha
      refine ⟨_, rfl, _, rfl, a, _, _, _, rfl, rfl, .of ha', atI_nat (j := 0) rfl, d, c, ns, F.width, rfl, gg.drd, w1, w16, fun z H2 hz D2 kp2 => ⟨_, kp2 D _ hl hDd, ?_, ws ++ [z], ?_, ?_, ?_, Go.own D0 (gg.step D2 kp2) hD⟩⟩
      · rw [List.length_map]
        exact small1000 (by omega)
      · rw [upd_same]
        unfold iv
        rw [List.map_append]
        rfl
      · rw [List.length_append, lw]
        rfl
      · intro y hy
        rcases List.mem_append.mp hy with h | h
        · exact okw y h
        · rw [List.mem_singleton.mp h]
          exact hz
    · rintro H' ⟨ws, hl, lw, okw, gg⟩
      rw [Int.toNat_natCast] at lw
      refine ⟨D, _, rfl, .inl ⟨.of hl, fun ta hta => ?_⟩⟩
      exact q ws ta _ lw okw upd_same (gg.new hta).drd (gg.new hta).keep
theorem scRun : FnScope NR ["function", "inputs", "fuel"] (defScope sLRun) := ⟨rfl, rfl, rfl, by decide +kernel, rfl, by decide +kernel, by decide +kernel⟩
theorem ok_lrun {f : Addr} {fd : FuncData} (F : Fun K "_law_run" "_law_run" sLRun f fd) (mr : mg "range" = none) (ml : mg "len" = none) (GV : GotV P w K mg base) : FnOk P w K mg base CX0 6 f fd ["function", "inputs", "fuel"] spR := by
  obtain ⟨fV, fdV, GVn, mV, kV, bV⟩ := GV.ex
  have GV := GVn 3
  refine F.ok scRun (fun vs H Q E h => ?_) (fun cdv A outer s H vs Q E hr h => ?_)
  · obtain ⟨nb, mo, F, v, ia, ws, fuel, rfl, _⟩ := h
    rfl
  · obtain ⟨nb, mo, F, v, ia, ws, fuel, rfl, hF, ok, nb40, mo40, hia, lw, okw, f60, q⟩ := h
    obtain ⟨fa, ba, rows, rfl, hfa, hba, pr⟩ := hF
    have nd := scRun.nd
    have hu := hu_of hr
    have hrV : Room (2 + 3) _ := hr
    refine ⟨_, (pss_cons (ps_set (i := 3) nd rfl (.inl rfl) (pe_ix (r := rIxT K) ix_tup (pv 0) pe_int (fun _ _ => rfl))) (pss_cons (ps_set (i := 4) nd rfl (.inl rfl) pe_dnewK) (pss_cons (ps_for PassesOwn.never rfl (pi_range1 (by rfl) mr (pa_cons (pe_callB call_len_seq (by rfl) ml PySem.boot_len (pa_cons (pv 1) pa_nil)) pa_nil)) (pg_name (i := 5) nd rfl (.inl rfl)) (pss_one (ps_dput hu (pv 4) (pv 5) (pe_ix (r := rIxT K) ix_tup (pv 1) (pv 5) (fun _ _ => rfl)) rfl))) (pss_cons (ps_set (i := 6) nd rfl (.inl rfl) (pe_op op_rep (pe_lst (pa_cons pe_int pa_nil)) pe_int)) (pss_cons (ps_set (i := 7) nd rfl (.inl rfl) (pe_lst pa_nil)) (pss_cons (ps_set (i := 8) nd rfl (.inl rfl) (pe_lst pa_nil)) (pss_cons (ps_set (i := 9) nd rfl (.inr rfl) (pe_ix (r := rIxT K) ix_tup (pe_ix (r := rIxT K) ix_tup (pe_ix (r := rIxT K) ix_tup (pv 0) pe_int (fun _ _ => rfl)) pe_int (fun _ _ => rfl)) pe_int (fun _ _ => rfl))) (pss_cons (ps_while PassesOwn.never (pt_cmpR op_lt (pe_callB call_len_seq (by rfl) ml PySem.boot_len (pa_cons (pv 8) pa_nil)) (pv 2) (nomark _)) (pss_cons (ps_set (i := 10) nd rfl (.inl rfl) (pe_ix (r := rIxL K) ix_list (pe_lc (own := [("row", 14)]) (g := gName 14) (tt := _) rfl nd (pi_tup (pe_ix (r := rIxT K) ix_tup (pv 0) pe_int (fun _ _ => rfl))) (blkOk_by (N := NR) (sc := defScope sLRun) (by decide +kernel)) (fun _ _ _ _ _ => pg_name (i := 14) nd rfl (.inl rfl)) (fun _ _ _ _ _ => (pts_one (pt_cmpR op_eq (pe_ix (r := rIxT K) ix_tup (pv 14) pe_int (fun _ _ => rfl)) (pv 9) (nomark _)))) (fun _ _ _ _ _ => (pv 14))) pe_int (fun _ _ => rfl))) (pss_cons (ps_expr (pe_bm PySem.F.plainAttrs_list PySem.F.slot_list_append PySem.F.type_list_append mt_append (pv 8) (pa_cons (pv 9) pa_nil))) (pss_cons (ps_for PassesOwn.never rfl (pi_tup (pe_ix (r := rIxT K) ix_tup (pv 10) pe_int (fun _ _ => rfl))) (pg_name (i := 11) nd rfl (.inl rfl)) (pss_one (ps_if (pt_cmpR op_eq (pe_ix (r := rIxT K) ix_tup (pv 11) pe_int (fun _ _ => rfl)) pe_str (nomark _)) (pss_one (ps_dput hu (pv 4) (pe_ix (r := rIxT K) ix_tup (pv 11) pe_int (fun _ _ => rfl)) (pe_call GV hrV (by rfl) mV kV bV .nil pass0 (pa_cons (pv 3) (pa_cons (pe_ix (r := rIxT K) ix_tup (pv 11) pe_int (fun _ _ => rfl)) (pa_cons (pv 4) (pa_cons (pv 6) pa_nil))))) rfl)) (pss_one (ps_if (pt_cmpR op_eq (pe_ix (r := rIxT K) ix_tup (pv 11) pe_int (fun _ _ => rfl)) pe_str (nomark _)) (pss_one (ps_expr (pe_bm PySem.F.plainAttrs_list PySem.F.slot_list_append PySem.F.type_list_append mt_append (pv 7) (pa_cons (pe_call GV hrV (by rfl) mV kV bV .nil pass0 (pa_cons (pv 3) (pa_cons (pe_ix (r := rIxT K) ix_tup (pv 11) pe_int (fun _ _ => rfl)) (pa_cons (pv 4) (pa_cons (pv 6) pa_nil))))) pa_nil)))) (pss_cons (ps_set (i := 12) nd rfl (.inl rfl) (pe_call GV hrV (by rfl) mV kV bV .nil pass0 (pa_cons (pv 3) (pa_cons (pe_ix (r := rIxT K) ix_tup (pv 11) pe_int (fun _ _ => rfl)) (pa_cons (pv 4) (pa_cons (pv 6) pa_nil)))))) (pss_one (ps_asg (pv 12) (pg_sub (pv 6) (pe_op op_mod (pe_call GV hrV (by rfl) mV kV bV .nil pass0 (pa_cons (pv 3) (pa_cons (pe_ix (r := rIxT K) ix_tup (pv 11) pe_int (fun _ _ => rfl)) (pa_cons (pv 4) (pa_cons (pv 6) pa_nil))))) pe_int) set_list))))))))) (pss_cons (ps_set (i := 13) nd rfl (.inl rfl) (pe_ix (r := rIxT K) ix_tup (pv 10) pe_int (fun _ _ => rfl))) (pss_cons (ps_if (pt_cmpR op_eq (pe_ix (r := rIxT K) ix_tup (pv 13) pe_int (fun _ _ => rfl)) pe_str (nomark _)) (pss_one (ps_ret (pe_tup (pa_cons (pv 7) (pa_cons (pe_tup (pa_cons pe_str (pa_cons (pe_call GV hrV (by rfl) mV kV bV .nil pass0 (pa_cons (pv 3) (pa_cons (pe_ix (r := rIxT K) ix_tup (pv 13) pe_int (fun _ _ => rfl)) (pa_cons (pv 4) (pa_cons (pv 6) pa_nil))))) pa_nil))) (pa_cons (pe_callB call_len_seq (by rfl) ml PySem.boot_len (pa_cons (pv 8) pa_nil)) (pa_cons (pv 8) pa_nil))))))) pss_nil) (pss_one (ps_set (i := 9) nd rfl (.inr rfl) (pe_ifExp (pt_cmpR op_eq (pe_ix (r := rIxT K) ix_tup (pv 13) pe_int (fun _ _ => rfl)) pe_str (nomark _)) (pe_ix (r := rIxT K) ix_tup (pv 13) pe_int (fun _ _ => rfl)) (pe_ifExp (pt_cmpR op_ne (pe_call GV hrV (by rfl) mV kV bV .nil pass0 (pa_cons (pv 3) (pa_cons (pe_ix (r := rIxT K) ix_tup (pv 13) pe_int (fun _ _ => rfl)) (pa_cons (pv 4) (pa_cons (pv 6) pa_nil))))) pe_int (nomark _)) (pe_ix (r := rIxT K) ix_tup (pv 13) pe_int (fun _ _ => rfl)) (pe_ix (r := rIxT K) ix_tup (pv 13) pe_int (fun _ _ => rfl)))))))))))) (pss_one (ps_ret (pe_tup (pa_cons (pv 7) (pa_cons (pe_tup (pa_cons pe_str pa_nil)) (pa_cons (pe_callB call_len_seq (by rfl) ml PySem.boot_len (pa_cons (pv 8) pa_nil)) (pa_cons (pv 8) pa_nil))))))))))))))), ?_⟩
    have w1 := ok.w1
    have w16 := ok.w16
    refine ⟨_, rfl, fa, _, _, _, rfl, rfl, .of hfa, atI_nat (j := 0) rfl, ?_⟩
    intro da hda
    have s1 : Same H (upd H da (.dK [])) := same_new hda
    have hcells := iv_len ws
    refine ⟨_, rfl, ia, _, rfl, .inr (.of (s1 _ _ hia)), _, rfl, by omega, by omega, for_range (lo := 0) (n := (((iv ws).length : Nat) : Int).toNat) (fun i σ H' => ∃ y5, σ = [some (.ref fa), some (.ref ia), some (.int (fuel : Int)), some (.int (F.width : Int)), some (.ref da), y5, none, none, none, none, none, none, none, none, none] ∧ Same H H' ∧ VarsAt H' da (fun k => (ws.take i).getD k 0) i)
      ⟨none, rfl, s1, [], upd_same, Nat.le_refl _, fun k => rfl⟩ ?_ ?_⟩
    · rintro i σ H' hi ⟨y5, rfl, sm, kvs, hk, lk, hv⟩
      rw [Int.toNat_natCast, List.length_map] at hi
      refine ⟨_, rfl, _, rfl, ia, _, _, _, rfl, rfl, .of (sm _ _ hia), at_of (j := i) (by omega) (iv_get hi), _, rfl, _, rfl, da, _, rfl, DPut.k (k := Sum.inl ((0 : Int) + (i : Int))) hk (big (by omega)), _, rfl, sput sm hda, ?_⟩
      rw [Int.zero_add]
      refine (VarsAt.put (f := fun k => (ws.take i).getD k 0) lk hv i ws[i]).cong fun k => ?_
      exact take_getD hi k
    rintro σ H2 ⟨y5, rfl, s2, va2⟩
    rw [Int.toNat_natCast, List.length_map, List.take_length] at va2
    -- memory, writes, labels
    refine ⟨(by show 1 ≤ sizeLine; decide), fun l0 hl0 => ⟨l0, 16, _, rfl, rfl, upd_same, by decide, by decide, (by show 16 ≤ sizeLine; decide), fun ma hma => ?_⟩⟩
    refine ⟨Nat.zero_le _, fun wa hwa => ?_⟩
    refine ⟨Nat.zero_le _, fun la hla => ?_⟩
    have nmw : ma ≠ wa := ne_of_none upd_same hwa
    have nwl : wa ≠ la := ne_of_none upd_same hla
    have nml : ma ≠ la := ne_of_none (by rw [upd_ne nmw]; exact upd_same) hla
    have sA : Same H2 _ := ((same_new (o := .lst [.int 0]) hl0).trans (same_new (o := .lst (List.replicate ((16 : Int)).toNat [V.int 0]).flatten) hma)).trans ((same_new (o := .lst []) hwa).trans (same_new (o := .lst []) hla))
    have hna : ∀ p, H p = none → True := fun _ _ => trivial
    have hma0 : H ma = none := s2.free ((same_new (o := .lst [.int 0]) hl0).free hma)
    have hwa0 : H wa = none := s2.free (((same_new (o := .lst [.int 0]) hl0).trans (same_new (o := .lst (List.replicate ((16 : Int)).toNat [V.int 0]).flatten) hma)).free hwa)
    have hla0 : H la = none := s2.free ((((same_new (o := .lst [.int 0]) hl0).trans (same_new (o := .lst (List.replicate ((16 : Int)).toNat [V.int 0]).flatten) hma)).trans (same_new (o := .lst []) hwa)).free hla)
    have s3 := s2.trans sA
    -- label
    obtain ⟨b0, hb0⟩ : ∃ b0, F.blocks[0]? = some b0 := ⟨F.blocks[0]'(by have := ok.b1; omega), List.getElem?_eq_getElem _⟩
    obtain ⟨r0, hr0, a0, sa0, u0, vs0, rfl, ha0, hs0, _, _⟩ := prd_get pr hb0
    refine ⟨_, rfl, fa, _, _, _, rfl, rfl, .of (s3 _ _ hfa), atI_nat (j := 2) rfl, ba, _, _, _, rfl, rfl, .of (s3 _ _ hba), atI_nat (j := 0) hr0, a0, _, _, _, rfl, rfl, .of (s3 _ _ ha0), atI_nat (j := 0) rfl, ?_⟩
    have el0 : (p0 F ws).label = b0.label := by
      show (F.blocks.headD noBl).label = b0.label
      rw [List.headD_eq_head?_getD, List.head?_eq_getElem?, hb0]
      rfl
    -- the loop
    refine while_by (fun σ H' => ∃ (p : Ps) (y5 y10 y11 y12 y13 : Option V), σ = [some (.ref fa), some (.ref ia), some (.int (fuel : Int)), some (.int (F.width : Int)), some (.ref da), y5, some (.ref ma), some (.ref wa), some (.ref la), some (.int (p.label : Int)), y10, y11, y12, y13, none] ∧
        Same H H' ∧ VarsAt H' da p.rs.vars (6 + 40 * p.labels.length) ∧ H' ma = some (.lst (iv p.rs.mem)) ∧ H' wa = some (.lst (iv p.rs.writes)) ∧ H' la = some (.lst (iv p.labels)) ∧ p.rs.writes.length ≤ 40 * p.labels.length ∧ p.labels.length ≤ fuel ∧ p.fin = none ∧ PsOk nb mo F p ∧ runP F (fuel - p.labels.length) p = runP F fuel (p0 F ws))
      (fun σ H' => match H' la with
        | some (.lst xs) => fuel - xs.length
        | _ => 0) ?_ ?_ ?_
    · refine ⟨p0 F ws, y5, none, none, none, none, ?_, s3, ?_, ?_, ?_, upd_same, Nat.zero_le _, Nat.zero_le _, rfl, p0_ok ok okw, rfl⟩
      · rw [el0]
        rfl
      · have := va2.same sA
        obtain ⟨kvs, e1, e2, e3⟩ := this
        exact ⟨kvs, e1, by show kvs.length ≤ 6 + 40 * 0; omega, e3⟩
      · rw [upd_ne nml, upd_ne nmw, upd_same]
        rfl
      · rw [upd_ne nwl, upd_same]
        rfl
    · rintro σ H3 ⟨p, y5, y10, y11, y12, y13, rfl, s4, va, hm, hw, hl, lwr, llb, pf, pok, prun⟩
      have hlen := iv_len p.labels
      refine ⟨_, rfl, la, _, rfl, .inl (.of hl), _, rfl, _, _, rfl, rfl, _, rfl, ite2 (fun e => ?_) (fun e => ?_)⟩
      · have hlt : p.labels.length < fuel := by
          have := of_decide_eq_true e
          omega
        obtain ⟨j0, b, hj0, hbl⟩ := lab_ix pok.lab
        have hblk : blk F p.label = b := by
          rw [← hbl]
          exact blk_at ok.nd hj0
        obtain ⟨r1, hr1, a1, sa1, u1, vs1, rfl, ha1, hs1, ps1, en1⟩ := prd_get pr hj0
        obtain ⟨k1, k2, k3⟩ := ok.ok b (List.mem_of_getElem? hj0)
        -- block
        refine ⟨_, rfl, fa, _, _, _, rfl, rfl, .of (s4 _ _ hfa), atI_nat (j := 2) rfl, ba, rfl, ⟨_, .of (s4 _ _ hba)⟩, fun Db hDb => lc_tup (xs := rows) (fun i H4 => H4 Db = some (.lst (if j0 < i then [.ref a1] else [])) ∧ Same H3 H4) ⟨upd_same, same_new hDb⟩ ?_ ?_ ?_⟩
        · rintro i H4 _ ⟨_, sm⟩
          exact .of (sm _ _ (s4 _ _ hba))
        · rintro i x H4 hx ⟨hD, sm⟩
          obtain ⟨bi, hbi, ai, si, ui, vsi, rfl, hai, _, _, _⟩ := prd_get' pr hx
          refine ⟨rfl, ?_⟩
          refine ⟨_, rfl, ai, _, _, _, rfl, rfl, .of (sm _ _ (s4 _ _ hai)), atI_nat (j := 0) rfl, _, rfl, rfl, _, rfl, ite2 (fun e => ?_) (fun e => ?_)⟩
          · have e1 : bi.label = p.label := by
              have := V.int.inj (of_decide_eq_true e)
              omega
            have eij : i = j0 := by
              have q1 : (F.blocks.map (·.label))[i]? = some p.label := by rw [List.getElem?_map, hbi, ← e1]; rfl
              have q2 : (F.blocks.map (·.label))[j0]? = some p.label := by rw [List.getElem?_map, hj0, ← hbl]; rfl
              exact nd_ix ok.nd q1 q2
            subst eij
            rw [hr1] at hx
            cases hx
            rw [if_neg (Nat.lt_irrefl _)] at hD
            refine ⟨_, rfl, _, hD, (by show 0 < sizeLine; decide), ?_, sput sm hDb⟩
            rw [upd_same, if_pos (Nat.lt_succ_self _)]
            rfl
          · have eij : i ≠ j0 := fun z => by
              subst z
              rw [hj0] at hbi
              cases hbi
              exact e (decide_eq_true (by rw [hbl]))
            refine ⟨?_, sm⟩
            rw [hD]
            by_cases h : j0 < i
            · rw [if_pos h, if_pos (by omega)]
            · rw [if_neg h, if_neg (by omega)]
        rintro H4 ⟨hD4, sm4⟩
        have hjl : j0 < rows.length := (List.getElem?_eq_some_iff.mp hr1).1
        rw [if_pos hjl] at hD4
        have s5 := s4.trans sm4
        have va4 := va.same sm4
        refine ⟨Db, _, _, _, rfl, rfl, .of hD4, atI_nat (j := 0) rfl, ?_⟩
        -- labels.append(label)
        have hl4 := sm4 _ _ hl
        refine ⟨_, rfl, .inl ⟨rfl, _, .of hl4⟩, _, rfl, la, _, _, rfl, rfl, hl4, big (by omega), ?_⟩
        have nlm : ma ≠ la := nml
        have s6 : Same H (upd H4 la (.lst (iv p.labels ++ [.int (p.label : Int)]))) := sput s5 hla0
        have elb : iv p.labels ++ [.int (p.label : Int)] = iv (p.labels ++ [p.label]) := by
          unfold iv
          rw [List.map_append]
          rfl
        obtain ⟨kvs4, hk4, lk4, hv4⟩ := va4
        have ndl : da ≠ la := ne_of hk4 hl4 (by intro z; cases z)
        have ndm : da ≠ ma := ne_of hk4 (sm4 _ _ hm) (by intro z; cases z)
        have ndw : da ≠ wa := ne_of hk4 (sm4 _ _ hw) (by intro z; cases z)
        -- the statements
        refine ⟨_, rfl, a1, _, _, _, rfl, rfl, .of (s6 _ _ ha1), atI_nat (j := 1) rfl, sa1, rfl, ⟨_, .of (s6 _ _ hs1)⟩, for_tup (xs := vs1) (fun i σ H' => ∃ (y11 y12 : Option V), σ = [some (.ref fa), some (.ref ia), some (.int (fuel : Int)), some (.int (F.width : Int)), some (.ref da), y5, some (.ref ma), some (.ref wa), some (.ref la), some (.int (p.label : Int)), some (.ref a1), y11, y12, y13, none] ∧
            Same H H' ∧ VarsAt H' da ((b.body.take i).foldl (doS F.width) p.rs).vars (6 + 40 * p.labels.length + i) ∧ H' ma = some (.lst (iv ((b.body.take i).foldl (doS F.width) p.rs).mem)) ∧ H' wa = some (.lst (iv ((b.body.take i).foldl (doS F.width) p.rs).writes)) ∧
            H' la = some (.lst (iv (p.labels ++ [p.label]))) ∧ ((b.body.take i).foldl (doS F.width) p.rs).writes.length ≤ 40 * p.labels.length + i)
          ⟨y11, y12, rfl, s6, ⟨kvs4, by rw [upd_ne ndl]; exact hk4, lk4, hv4⟩, by rw [upd_ne nml]; exact sm4 _ _ hm, by rw [upd_ne nwl]; exact sm4 _ _ hw, by rw [upd_same, elb], lwr⟩ ?_ ?_ ?_⟩
        · rintro i σ H5 _ ⟨y11, y12, _, s7, _⟩
          exact .of (s7 _ _ hs1)
        · rintro i x σ H5 hx ⟨y11, y12, rfl, s7, vb, hm5, hw5, hl5, lw5⟩
          obtain ⟨st, hst, at5⟩ := prd_get' ps1 hx
          have hok := k1 st (List.mem_of_getElem? hst)
          have est : (b.body.take (i + 1)).foldl (doS F.width) p.rs = doS F.width ((b.body.take i).foldl (doS F.width) p.rs) st := by
            rw [List.take_add_one, hst, List.foldl_append]
            rfl
          have il : i < b.body.length := (List.getElem?_eq_some_iff.mp hst).1
          have gd : Good F.width ((b.body.take i).foldl (doS F.width) p.rs).vars ((b.body.take i).foldl (doS F.width) p.rs).mem := foldS_good w1 pok.good fun s hs => k1 s (List.mem_of_mem_take hs)
          generalize hr : (b.body.take i).foldl (doS F.width) p.rs = r at *
          have at6 := at5.mono (Tups.of s7)
          cases st with
          | set x e =>
            obtain ⟨ai, u, rfl, hai, hexp⟩ := at6
            refine ⟨_, rfl, ai, _, _, _, rfl, rfl, .of hai, atI_nat (j := 0) rfl, rfl, _, rfl, ite2 (fun _ => ?_) (fun e => absurd dT e)⟩
            refine ⟨_, rfl, _, rfl, ai, _, _, _, rfl, rfl, .of hai, atI_nat (j := 2) rfl, _, rfl, _, rfl, F.width, u, da, ma, r.vars, r.mem, e, _, rfl, w1, w16, hexp, hok.2.1, hok.2.2, vb, hm5, gd, fun H6 s8 => ?_⟩
            obtain ⟨kvs, hk, lk, hv⟩ := vb.same s8
            refine ⟨_, rfl, _, rfl, ai, _, _, _, rfl, rfl, .of (s8 _ _ hai), atI_nat (j := 1) rfl, da, _, rfl, DPut.k (k := Sum.inl (x : Int)) hk (big (by omega)), ?_⟩
            refine ⟨_, _, rfl, sput (s7.trans s8) hda, ?_, ?_, ?_, ?_, ?_⟩
            · rw [est]
              exact VarsAt.put lk hv x _
            · rw [est, upd_ne ndm.symm]
              exact s8 _ _ hm5
            · rw [est, upd_ne ndw.symm]
              exact s8 _ _ hw5
            · rw [upd_ne ndl.symm]
              exact s8 _ _ hl5
            · rw [est]
              exact Nat.le_succ_of_le lw5
          | write e =>
            obtain ⟨ai, u, rfl, hai, hexp⟩ := at6
            refine ⟨_, rfl, ai, _, _, _, rfl, rfl, .of hai, atI_nat (j := 0) rfl, rfl, _, rfl, ite2 (fun e => absurd e (dN (by decide +kernel))) (fun _ => ?_)⟩
            refine ⟨_, rfl, ai, _, _, _, rfl, rfl, .of hai, atI_nat (j := 0) rfl, rfl, _, rfl, ite2 (fun _ => ?_) (fun e => absurd dT e)⟩
            refine ⟨_, rfl, .inl ⟨rfl, _, .of hw5⟩, _, rfl, _, rfl, ai, _, _, _, rfl, rfl, .of hai, atI_nat (j := 1) rfl, _, rfl, _, rfl, F.width, u, da, ma, r.vars, r.mem, e, _, rfl, w1, w16, hexp, hok.1, hok.2, vb, hm5, gd, fun H6 s8 => ?_⟩
            refine ⟨wa, _, _, rfl, rfl, s8 _ _ hw5, big (by rw [List.length_map]; omega), ?_⟩
            refine ⟨_, _, rfl, sput (s7.trans s8) hwa0, ?_, ?_, ?_, ?_, ?_⟩
            · obtain ⟨kvs, hk, lk, hv⟩ := vb.same s8
              rw [est]
              exact ⟨kvs, by rw [upd_ne ndw]; exact hk, by omega, hv⟩
            · rw [est, upd_ne nmw]
              exact s8 _ _ hm5
            · rw [est, upd_same]
              show some (HO.lst (iv r.writes ++ [V.int (ev F.width r.vars r.mem e : Int)])) = some (HO.lst (iv (r.writes ++ [ev F.width r.vars r.mem e])))
              unfold iv
              rw [List.map_append]
              rfl
            · rw [upd_ne nwl.symm]
              exact s8 _ _ hl5
            · rw [est]
              show (r.writes ++ [_]).length ≤ _
              rw [List.length_append, List.length_singleton]
              omega
          | store z e =>
            obtain ⟨ai, u, y, rfl, hai, hexp, hexp2⟩ := at6
            refine ⟨_, rfl, ai, _, _, _, rfl, rfl, .of hai, atI_nat (j := 0) rfl, rfl, _, rfl, ite2 (fun e => absurd e (dN (by decide +kernel))) (fun _ => ?_)⟩
            refine ⟨_, rfl, ai, _, _, _, rfl, rfl, .of hai, atI_nat (j := 0) rfl, rfl, _, rfl, ite2 (fun e => absurd e (dN (by decide +kernel))) (fun _ => ?_)⟩
            refine ⟨_, rfl, _, rfl, ai, _, _, _, rfl, rfl, .of hai, atI_nat (j := 2) rfl, _, rfl, _, rfl, F.width, y, da, ma, r.vars, r.mem, e, _, rfl, w1, w16, hexp2, hok.2.1, hok.2.2, vb, hm5, gd, fun H6 s8 => ?_⟩
            have vb6 := vb.same s8
            refine ⟨_, rfl, _, rfl, _, rfl, _, rfl, ai, _, _, _, rfl, rfl, .of (s8 _ _ hai), atI_nat (j := 1) rfl, _, rfl, _, rfl, F.width, u, da, ma, r.vars, r.mem, z, _, rfl, w1, w16, hexp.mono (Tups.of s8), hok.1.1, hok.1.2, vb6, s8 _ _ hm5, gd, fun H7 s9 => ?_⟩
            have hix : ixN (iv r.mem).length ((ev F.width r.vars r.mem z : Int) % 16) = some (ev F.width r.vars r.mem z % 16) := by
              rw [List.length_map, gd.len]
              unfold ixN
              rw [if_pos (by omega), if_pos (by omega)]
              exact congrArg some (by omega)
            refine ⟨_, _, rfl, rfl, (by show (0 : Int) < 16; decide), ma, _, _, _, rfl, rfl, s9 _ _ (s8 _ _ hm5), hix, ?_⟩
            refine ⟨_, _, rfl, sput ((s7.trans s8).trans s9) hma0, ?_, ?_, ?_, ?_, ?_⟩
            · obtain ⟨kvs, hk, lk, hv⟩ := vb6.same s9
              rw [est]
              exact ⟨kvs, by rw [upd_ne ndm]; exact hk, by omega, hv⟩
            · rw [est, upd_same]
              show some (HO.lst ((iv r.mem).set _ _)) = some (HO.lst (iv (r.mem.set _ _)))
              unfold iv
              rw [List.map_set]
            · rw [est, upd_ne nmw.symm]
              exact s9 _ _ (s8 _ _ hw5)
            · rw [upd_ne nml.symm]
              exact s9 _ _ (s8 _ _ hl5)
            · rw [est]
              exact Nat.le_succ_of_le lw5
        rintro σ H5 ⟨y11', y12', rfl, s7, vb, hm5, hw5, hl5, lw5⟩
        have ebl : vs1.length = b.body.length := ps1.length.symm
        rw [ebl, List.take_length] at vb hm5 hw5 lw5
        have gd := foldS_good w1 pok.good k1
        have hstep : stepP F p = endP F.width (b.body.foldl (doS F.width) p.rs) p b.fin := by
          unfold stepP doB
          rw [hblk]
        have hpok := stepP_ok ok pok
        have hrun : runP F (fuel - (p.labels.length + 1)) (stepP F p) = runP F fuel (p0 F ws) := by
          rw [← prun, show fuel - p.labels.length = (fuel - (p.labels.length + 1)) + 1 by omega, runP_step pf]
        generalize hr : b.body.foldl (doS F.width) p.rs = r at *
        -- the end
        refine ⟨_, rfl, a1, _, _, _, rfl, rfl, .of (s7 _ _ ha1), atI_nat (j := 2) rfl, ?_⟩
        have en5 := en1.mono (Tups.of s7)
        have hlen5 := iv_len (p.labels ++ [p.label])
        have hll : (p.labels ++ [p.label]).length = p.labels.length + 1 := by
          rw [List.length_append]
          rfl
        cases hf : b.fin with
        | ret e =>
          rw [hf] at en5 k3 hstep
          obtain ⟨ae, u, rfl, hae, hexp⟩ := en5
          refine ⟨_, rfl, ae, _, _, _, rfl, rfl, .of hae, atI_nat (j := 0) rfl, rfl, _, rfl, ite2 (fun _ => ?_) (fun e => absurd dT e)⟩
          refine ⟨_, rfl, _, rfl, _, rfl, ae, _, _, _, rfl, rfl, .of hae, atI_nat (j := 1) rfl, _, rfl, _, rfl, F.width, u, da, ma, r.vars, r.mem, e, _, rfl, w1, w16, hexp, k3.1, k3.2, vb, hm5, gd, fun H6 s8 => ?_⟩
          refine ⟨(by show 2 ≤ sizeLine; decide), fun ea hea => ?_⟩
          have n2 : la ≠ ea := ne_of_none (s8 _ _ hl5) hea
          refine ⟨_, rfl, la, _, rfl, .inl (.of (by rw [upd_ne n2]; exact s8 _ _ hl5)), _, rfl, (by show 4 ≤ sizeLine; decide), fun ta hta => ?_⟩
          have hfin : runP F fuel (p0 F ws) = stepP F p := by
            rw [← hrun, hstep]
            exact runP_fin rfl _
          have hl6 := s8 _ _ hl5
          have hw6 := s8 _ _ hw5
          have sB := (same_new (o := .tup [.str "return", .int (ev F.width r.vars r.mem e : Int)]) hea).trans (same_new (o := .tup [.ref wa, .ref ea, .int (((iv (p.labels ++ [p.label])).length : Nat) : Int), .ref la]) hta)
          have net : ea ≠ ta := ne_of_none upd_same hta
          refine q ta wa ea la _ ((s7.trans s8).trans sB) ?_ ?_ ?_ ?_
          · rw [upd_same, hfin, hstep]
            show some (HO.tup [_, _, V.int _, _]) = some (HO.tup [_, _, V.int (((p.labels ++ [p.label]).length : Nat) : Int), _])
            rw [hlen5]
          · rw [hfin, hstep]
            exact sB _ _ hw6
          · rw [hfin, hstep, upd_ne net]
            exact upd_same
          · rw [hfin, hstep]
            exact sB _ _ hl6
        | go l =>
          rw [hf] at en5 k3 hstep
          obtain ⟨ae, rfl, hae⟩ := en5
          refine ⟨_, rfl, ae, _, _, _, rfl, rfl, .of hae, atI_nat (j := 0) rfl, rfl, _, rfl, ite2 (fun e => absurd e (dN (by decide +kernel))) (fun _ => ?_)⟩
          refine ⟨_, rfl, ae, _, _, _, rfl, rfl, .of hae, atI_nat (j := 0) rfl, rfl, _, rfl, ite2 (fun _ => ?_) (fun e => absurd dT e)⟩
          refine ⟨_, rfl, ae, _, _, _, rfl, rfl, .of hae, atI_nat (j := 1) rfl, ?_⟩
          refine ⟨⟨stepP F p, y5, _, _, _, _, by rw [hstep]; rfl, s7, ?_, by rw [hstep]; exact hm5, by rw [hstep]; exact hw5, by rw [hstep]; exact hl5, by rw [hstep]; show r.writes.length ≤ 40 * (p.labels ++ [p.label]).length; omega, by rw [hstep]; show (p.labels ++ [p.label]).length ≤ fuel; omega, by rw [hstep]; rfl, hpok, by rw [stepP_labels, hll]; exact hrun⟩, ?_⟩
          · rw [hstep]
            obtain ⟨kvs, hk, lk, hv⟩ := vb
            exact ⟨kvs, hk, by show kvs.length ≤ 6 + 40 * (p.labels ++ [p.label]).length; omega, hv⟩
          · show (match H5 la with
              | some (.lst xs) => fuel - xs.length
              | _ => 0) < (match H3 la with
              | some (.lst xs) => fuel - xs.length
              | _ => 0)
            rw [hl5, hl]
            show fuel - (iv (p.labels ++ [p.label])).length < fuel - (iv p.labels).length
            omega
        | iff e l m =>
          rw [hf] at en5 k3 hstep
          obtain ⟨ae, u, rfl, hae, hexp⟩ := en5
          refine ⟨_, rfl, ae, _, _, _, rfl, rfl, .of hae, atI_nat (j := 0) rfl, rfl, _, rfl, ite2 (fun e => absurd e (dN (by decide +kernel))) (fun _ => ?_)⟩
          refine ⟨_, rfl, ae, _, _, _, rfl, rfl, .of hae, atI_nat (j := 0) rfl, rfl, _, rfl, ite2 (fun e => absurd e (dN (by decide +kernel))) (fun _ => ?_)⟩
          refine ⟨_, rfl, _, rfl, ae, _, _, _, rfl, rfl, .of hae, atI_nat (j := 1) rfl, _, rfl, _, rfl, F.width, u, da, ma, r.vars, r.mem, e, _, rfl, w1, w16, hexp, k3.1.1, k3.1.2, vb, hm5, gd, fun H6 s8 => ⟨rfl, _, rfl, ?_⟩⟩
          have fin : ∀ (x : Nat), (stepP F p).label = x → (fun (σ : L2.St) (H' : Hp) => True) [] H6 → ∀ (v13 : Option V), (∃ (p' : Ps) (x5 y10 y11 y12 y13 : Option V), ([some (.ref fa), some (.ref ia), some (.int (fuel : Int)), some (.int (F.width : Int)), some (.ref da), y5, some (.ref ma), some (.ref wa), some (.ref la), some (.int (x : Int)), some (.ref a1), y11', y12', v13, none] : L2.St) = [some (.ref fa), some (.ref ia), some (.int (fuel : Int)), some (.int (F.width : Int)), some (.ref da), x5, some (.ref ma), some (.ref wa), some (.ref la), some (.int (p'.label : Int)), y10, y11, y12, y13, none] ∧
              Same H H6 ∧ VarsAt H6 da p'.rs.vars (6 + 40 * p'.labels.length) ∧ H6 ma = some (.lst (iv p'.rs.mem)) ∧ H6 wa = some (.lst (iv p'.rs.writes)) ∧ H6 la = some (.lst (iv p'.labels)) ∧ p'.rs.writes.length ≤ 40 * p'.labels.length ∧ p'.labels.length ≤ fuel ∧ p'.fin = none ∧ PsOk nb mo F p' ∧ runP F (fuel - p'.labels.length) p' = runP F fuel (p0 F ws)) ∧
              (match H6 la with
              | some (.lst xs) => fuel - xs.length
              | _ => 0) < (match H3 la with
              | some (.lst xs) => fuel - xs.length
              | _ => 0) := by
            intro x hx _ v13
            refine ⟨⟨stepP F p, y5, _, _, _, _, by rw [hx], s7.trans s8, ?_, by rw [hstep]; exact s8 _ _ hm5, by rw [hstep]; exact s8 _ _ hw5, by rw [hstep]; exact s8 _ _ hl5, by rw [hstep]; show r.writes.length ≤ 40 * (p.labels ++ [p.label]).length; omega, by rw [hstep]; show (p.labels ++ [p.label]).length ≤ fuel; omega, by rw [hstep]; rfl, hpok, by rw [stepP_labels, hll]; exact hrun⟩, ?_⟩
            · rw [hstep]
              obtain ⟨kvs, hk, lk, hv⟩ := vb.same s8
              exact ⟨kvs, hk, by show kvs.length ≤ 6 + 40 * (p.labels ++ [p.label]).length; omega, hv⟩
            · rw [s8 _ _ hl5, hl]
              show fuel - (iv (p.labels ++ [p.label])).length < fuel - (iv p.labels).length
              omega
          by_cases hz : ev F.width r.vars r.mem e = 0
          · have hx : (stepP F p).label = m := by
              rw [hstep]
              show (if ev F.width r.vars r.mem e ≠ 0 then l else m) = m
              rw [if_neg (fun z => z hz)]
            rw [hz]
            refine iteF ?_
            obtain ⟨⟨p', z5, z10, z11, z12, z13, heq, rest⟩, hmu⟩ := fin m hx trivial (some (.ref ae))
            exact ⟨_, rfl, ae, _, _, _, rfl, rfl, .of (s8 _ _ hae), atI_nat (j := 3) rfl, ⟨p', z5, z10, z11, z12, z13, heq, rest⟩, hmu⟩
          · have hx : (stepP F p).label = l := by
              rw [hstep]
              show (if ev F.width r.vars r.mem e ≠ 0 then l else m) = l
              rw [if_pos hz]
            have hd : decide (V.int (ev F.width r.vars r.mem e : Int) = V.int 0) = false := decide_eq_false fun z => hz (by have := V.int.inj z; omega)
            rw [hd]
            refine iteT ?_
            obtain ⟨⟨p', z5, z10, z11, z12, z13, heq, rest⟩, hmu⟩ := fin l hx trivial (some (.ref ae))
            exact ⟨_, rfl, ae, _, _, _, rfl, rfl, .of (s8 _ _ hae), atI_nat (j := 2) rfl, ⟨p', z5, z10, z11, z12, z13, heq, rest⟩, hmu⟩
      · -- no fuel
        have hge : fuel = p.labels.length := by
          have : ¬ (((iv p.labels).length : Nat) : Int) < (fuel : Int) := fun z => e (decide_eq_true z)
          omega
        have hfin : runP F fuel (p0 F ws) = p := by
          rw [← prun, hge, Nat.sub_self]
          rfl
        refine ⟨_, rfl, (by show 1 ≤ sizeLine; decide), fun ea hea => ?_⟩
        have n2 : la ≠ ea := ne_of_none hl hea
        refine ⟨_, rfl, la, _, rfl, .inl (.of (by rw [upd_ne n2]; exact hl)), _, rfl, (by show 4 ≤ sizeLine; decide), fun ta hta => ?_⟩
        have sB := (same_new (o := .tup [.str "none"]) hea).trans (same_new (o := .tup [.ref wa, .ref ea, .int (((iv p.labels).length : Nat) : Int), .ref la]) hta)
        have net : ea ≠ ta := ne_of_none upd_same hta
        refine q ta wa ea la _ (s4.trans sB) ?_ ?_ ?_ ?_
        · rw [upd_same, hfin, hlen]
        · rw [hfin]
          exact sB _ _ hw
        · rw [hfin, upd_ne net, pf]
          exact upd_same
        · rw [hfin]
          exact sB _ _ hl
    · rintro σ H' Q1 Q2 hq ⟨v1, e1, a1, ys, e2, e3, v2, e4, i, j, e5, e6, k, e7, h⟩
      exact ⟨v1, e1, a1, ys, e2, e3, v2, e4, i, j, e5, e6, k, e7, hq _ _ h⟩

end
end K0

set_option Elab.async false
set_option linter.all false
set_option maxRecDepth 100000
set_option maxHeartbeats 2000000
/-! enumerate over a tuple -/
namespace K0
open PySem
open Sem (wp)
open AutoSeq1 (wpAny_loadPart')
theorem meets_enumerate_newT (l : Addr) (items : Array Value) (n : Nat) (dct : Option Addr) (sl : Array (Option Value)) :
    Meets (Builtin.«enumerate.__new__» ⟨[.type "enumerate", .ref l], []⟩) (fun _ R s => s.heap.get? l = some { cls := .type "tuple", dict := dct, data := .seq items n, slots := sl } ∧
      R (.ok (.ret (.ref (s.heap.push { cls := .type "tuple_iterator", data := .fields #[.ref l, .int 0 0] }).objs.size)))
        { s with heap := (s.heap.push { cls := .type "tuple_iterator", data := .fields #[.ref l, .int 0 0] }).push { cls := .type "enumerate", data := .fields #[.none, .bool false, .ref s.heap.objs.size, rawInt 0, .none, .none] } }) :=
  .of_wp fun prog w A R s h => by
    obtain ⟨hp, g, d, tk, os⟩ := s; obtain ⟨hl, h⟩ := h
    have hsub := sub_enumerate
    have hL : Heap.IsTuple (Shared.heap ⟨hp, g, d, tk, os⟩) l items := ⟨_, hl, rfl, n, rfl⟩
    wp_walk using wpAny_loadPart' hl
    refine wpAny_stack_any fun st => wpAny_pure ?_
    split
    · rename_i c _ _ _ _ _
      cases (c == Value.type "enumerate")
      · wp_walk using wpAny_loadPart' hl, wpAny_pyIter_tuple hL
        exact ⟨_, rfl, h⟩
      · wp_walk using wpAny_loadPart' hl, wpAny_pyIter_tuple hL
        exact ⟨_, rfl, h⟩
    · wp_walk using wpAny_loadPart' hl, wpAny_pyIter_tuple hL
      exact ⟨_, rfl, h⟩
theorem call_enumerate_tuple {prog : Program} {w : World} {A : Around} {E : Value → Shared → Prop} {s : Shared} {l : Addr} {items : Array Value} {Q : Value → Shared → Prop} (hL : s.heap.IsTuple l items)
    (h : ∀ h', IsEnum h' (s.heap.objs.size + 1) s.heap.objs.size 0 .none → h'.IsTupleIter s.heap.objs.size l 0 → h'.objs.size = s.heap.objs.size + 2 →
      (∀ b o, s.heap.get? b = some o → h'.get? b = some o) → Q (.ref (s.heap.objs.size + 1)) { s with heap := h' }) :
    wpAny (model prog w) A (call (.type "enumerate") [.ref l]) Q E s := by
  obtain ⟨⟨c, dct, dt, sl⟩, hl, hc, n, hd⟩ := hL
  replace hc : c = .type "tuple" := hc
  replace hd : dt = .seq items n := hd
  subst hc hd
  refine callType_new F.called_enumerate (by decide) (F.typeCall_enumerate_1 _) (F.newCall_enumerate_1 _) (fun obj => F.args_object_init_2 obj _) F.entry_enumerate_new
    (meets_enumerate_newT l items n dct sl) ⟨hl, ?_⟩
  have hz : (s.heap.push { cls := .type "tuple_iterator", data := .fields #[.ref l, .int 0 0] }).objs.size = s.heap.objs.size + 1 := Heap.size_push ..
  show _ ∧ _
  rw [hz]
  have he : IsEnum ((s.heap.push { cls := .type "tuple_iterator", data := .fields #[.ref l, .int 0 0] }).push
      { cls := .type "enumerate", data := .fields #[.none, .bool false, .ref s.heap.objs.size, rawInt 0, .none, .none] }) (s.heap.objs.size + 1) s.heap.objs.size 0 .none := by
    have := Heap.get?_push_size (s.heap.push { cls := .type "tuple_iterator", data := .fields #[.ref l, .int 0 0] })
      (o := { cls := .type "enumerate", data := .fields #[.none, .bool false, .ref s.heap.objs.size, rawInt 0, .none, .none] }) rfl
    rw [hz] at this; exact this
  refine ⟨⟨_, he, rfl⟩, h _ he ⟨_, Heap.get?_push_of_some _ (Heap.get?_push_size _ rfl), rfl, rfl⟩ (by rw [Heap.size_push, hz]) fun b o x => Heap.get?_push_of_some _ (Heap.get?_push_of_some _ x)⟩
open L2 PySem.Spec PyProof.Rows
/-- the tuple at a, each item in a new pair -/
def IteT (K : PySem.W.Frag) (a : Addr) : It :=
  ⟨fun i H => ∃ (xs : List V) (x : V), SqT K H a xs ∧ xs[i]? = some x, fun i H v H' => ∃ T x, v = .ref T ∧ H T = none ∧ H' = upd H T (.tup [.int (i : Nat), x]) ∧ ∀ xs, SqT K H a xs → xs[i]? = some x, fun i H => ∃ xs : List V, SqT K H a xs ∧ xs.length ≤ i⟩
theorem turn_enumT {P : Program} {w : World} {K : PySem.W.Frag} {elts : List Expr} {kk : Nat} {tpos : Pos} (a e it : Addr) :
    Turn P w K (.Tuple elts kk tpos) (IteT K a) [e, it] e (fun i h => (∃ old, IsEnum h e it ((i : Nat) : Int) old) ∧ h.IsTupleIter it a i ∧ e ≠ it) where
  mem := by simp
  obj := fun i h st b hb => by
    obtain ⟨⟨old, he⟩, ⟨o, ho, hc, hd⟩, _⟩ := st
    have e' : b = e ∨ b = it := by simpa using hb
    rcases e' with z | z
    · rw [z]; exact ⟨_, he, fun v q => nomatch q⟩
    · rw [z]; exact ⟨o, ho, fun v q => by rw [hd] at q; cases q⟩
  keep := fun i h h' st k => let ⟨⟨old, he⟩, hi, hne⟩ := st; ⟨⟨old, k e (by simp) _ he⟩, hi.at fun o q => k it (by simp) o q, hne⟩
  item := by
    intro X hP hw hK hc i pins s σ H E I hf st hg
    subst hP hw hK
    obtain ⟨⟨old, he⟩, hit, hne⟩ := st
    obtain ⟨xs, x, hq, hx⟩ := hg
    obtain ⟨its, rv, p, hz⟩ := I.tuple hq
    obtain ⟨u, hu, ru⟩ := rv.get hx
    have hel : e < s.heap.objs.size := Heap.lt_size he
    have hil : it < s.heap.objs.size := by obtain ⟨_, q, _⟩ := hit; exact Heap.lt_size q
    have hT0 : s.heap.IsTuple a its.toArray := p
    have hai : a ≠ it := fun z => by
      obtain ⟨o1, h1, c1, _⟩ := hT0
      obtain ⟨o2, h2, c2, _⟩ := hit
      rw [z, h2] at h1
      cases h1
      rw [c2] at c1
      exact absurd (Value.type.inj c1) (by decide)
    have hae : a ≠ e := fun z => by
      obtain ⟨o1, h1, c1, _⟩ := hT0
      rw [z, he] at h1
      cases h1
      exact absurd (Value.type.inj c1) (by decide)
    have hlt : i < its.toArray.size := by
      have := (List.getElem?_eq_some_iff.mp hu).1
      simpa using this
    refine wpAny_pyNext_enum_itemD (Draws.tuple (show X.A.in1.handled = none from I.ok.hd hc) it a hai its.toArray) he ⟨hit, hT0⟩ hlt hne (by simp [hne, hae.symm]) fun y h' tk hP ho hit' hT hsz hk => ?_
    have hy : y = u := by
      have q : its.toArray[i]? = some u := by simpa using hu
      rw [q] at hP
      exact (Option.some.inj hP).symm
    subst hy
    refine ⟨_, rfl, wpAny_letOwnedTupleGo_enum (s := { s with heap := h', toks := tk + 1 }) ho fun h'' he' sb => ?_⟩
    have hT2 : h''.get? s.heap.objs.size = some { cls := .type "tuple", data := .seq #[.int i tk, y] } := (sb.2 _ (Nat.ne_of_gt hel)).trans hT
    have new : ObjOk X.prog X.w (upd H s.heap.objs.size (.tup [.int (i : Nat), x])) h'' s.heap.objs.size (.tup [.int (i : Nat), x]) :=
      ⟨by show 2 ≤ sizeLine; decide, [.int i tk, y], .cons ⟨_, rfl⟩ (.cons ru .nil), ⟨_, hT2, rfl, _, rfl⟩⟩
    have I1 : Inv X pins σ (upd H s.heap.objs.size (.tup [.int (i : Nat), x])) { s with heap := h'', toks := tk + 1 } :=
      I.turnedNew (ch := [e, it]) (fun b ob hb q => (sb.2 b (fun z => hb (by simp [z]))).trans (hk b ob (fun z => hb (by simp [z])) (fun z => hb (by simp [z])) q)) hf (Nat.le_refl _) new
    refine ⟨.ref s.heap.objs.size, _, I1, rfl, ⟨_, x, rfl, I.hok.fresh (Nat.le_refl _), rfl, fun ys hy => by rw [I.tuple_inj hy hq]; exact hx⟩, ⟨⟨y, ?_⟩, hit'.1.at fun o q => (sb.2 it (Ne.symm hne)).trans q, hne⟩, fun b hb => ?_⟩
    · have e1 : ((i + 1 : Nat) : Int) = (i : Int) + 1 := by omega
      rw [e1]; exact he'
    · have hb' : b < s.heap.objs.size := by
        have e' : b = e ∨ b = it := by simpa using hb
        rcases e' with z | z
        · rw [z]; exact hel
        · rw [z]; exact hil
      rw [upd_ne (Nat.ne_of_lt hb')]
      exact (hf b hb).1
  done := by
    intro X hP hw hK hc i pins s σ H E I hf st hg
    subst hP hw hK
    obtain ⟨⟨old, he⟩, hit, hne⟩ := st
    obtain ⟨xs, hq, hx⟩ := hg
    obtain ⟨its, rv, p, hz⟩ := I.tuple hq
    obtain ⟨f0, f1, f2, f3, f4, f5⟩ := hf it (by simp)
    have hl := rv.length
    have hT0 : s.heap.IsTuple a its.toArray := p
    have hT : s.TypeIs (.ref e) "enumerate" := ⟨_, he, rfl⟩
    unfold pyNext
    refine wpAny_bind (wpAny_attempt (wpAny_callSpecial?_slot (name := Str.ofString "__next__") hT F.slot_enumerate_next
      (wpAny_call_entry F.slot_enumerate_next hT F.entry_enumerate_next ?_ (F.args_enumerate_next_1 _))))
    show wpAny _ _ (field (.ref e) 2 >>= _) _ _ _
    refine wpAny_bind (wpAny_field he rfl (x := .ref it) rfl ?_)
    refine wpAny_bind (wpAny_nextOf_tuple_end (show X.A.in1.handled = none from I.ok.hd hc) hit hT0 (by simp; omega) fun h' x he' hx' => ?_)
    obtain ⟨o, ho, hc'⟩ := hx'
    refine wpAny_bind (wpAny_isInstance (T := "StopIteration") (b := true) ⟨o, ho, hc'⟩ isSubtype_stop ?_)
    exact wpAny_pure ⟨rfl, I.turned (t' := s.toks) (fun b o hb q => he' b o hb q) f0 f1 f3 f4 f5⟩
  self := fun A i s Q E st h => let ⟨⟨_, he⟩, _⟩ := st; wpAny_pyIter_enum he h
def iEnumT (K : PySem.W.Frag) (ta : TA) : TI := fun σ H R => ta σ H fun vs H1 => ∃ a xs, vs = [.ref a] ∧ SqT K H1 a xs ∧ R (IteT K a) H1
theorem pi_enumT {X : Cx} {e : Expr} {ta : TA} {p pos tpos : Pos} {elts : List Expr} {kk : Nat} (hg : Gl X "enumerate") (hm : X.mg "enumerate" = none) (ha : PA X [e] ta) (hs : starEach [e] X.env = [(false, eval e X.env)] := by rfl) :
    PI X (.Tuple elts kk tpos) (.Call (.Name "enumerate" p) [e] [] pos) (iEnumT X.K ta) := by
  refine ⟨fun pins s σ H R I h => ?_⟩
  refine Call_ (ld_blt I hg hm boot_enumerate (PyProof.Rows.callWith_type1 (thn (ha.run pos pins s σ H _ I h) fun us s1 ⟨vs, H1, I1, r1, q1⟩ => ?_) hs rfl))
  obtain ⟨a, xs, ex, hq, q⟩ := q1
  subst ex
  cases r1 with
  | cons r rr =>
    cases rr
    cases r
    obtain ⟨its, rv, p', hz⟩ := I1.tuple hq
    refine call_enumerate_tuple (show s1.heap.IsTuple a its.toArray from p') fun h' he hit hsz hk => wpAny_pyIter_enum he ?_
    have I2 : Inv X pins σ H1 { s1 with heap := h' } := I1.kept (t' := s1.toks) hk
    refine ⟨s1.heap.objs.size + 1, [s1.heap.objs.size + 1, s1.heap.objs.size], _, _, H1, rfl, I2, turn_enumT a (s1.heap.objs.size + 1) s1.heap.objs.size, ⟨⟨.none, he⟩, hit, Nat.succ_ne_self _⟩, fun b hb => ?_, q⟩
    have e' : b = s1.heap.objs.size + 1 ∨ b = s1.heap.objs.size := by simpa using hb
    have hle : s1.heap.objs.size ≤ b := by
      rcases e' with z | z
      · rw [z]; exact Nat.le_add_right _ _
      · rw [z]; exact Nat.le_refl _
    exact I1.fpOk hle (I1.hok.fresh hle)
/-- a dict comprehension over enumerate of a tuple -/
theorem dc_enumT {K : PySem.W.Frag} {a : Addr} {xs : List V} {g : TG} {tt : TT} {tk tv : TE} {vs : List Nat} {σ : L2.St} {H1 : Hp} {D : Addr} {Qd : Hp → Prop} (Pv : Nat → Hp → Prop) (h0 : Pv 0 (upd H1 D (.dK []))) (hl : ∀ i H, i ≤ xs.length → Pv i H → SqT K H a xs)
    (hs : ∀ i x T H, xs[i]? = some x → Pv i H → H T = none → g (.ref T) (wipe σ vs) (upd H T (.tup [.int (i : Nat), x])) fun σ2 H2 => wipe σ2 vs = wipe σ vs ∧ tt σ2 H2 fun b H3 =>
      if b = true then tk σ2 H3 fun y H4 => tv σ2 H4 fun z H5 => ∃ kvs k, y = kV k ∧ H5 D = some (.dK kvs) ∧ kvs.length < sizeLine ∧ Pv (i + 1) (upd H5 D (.dK (putK kvs k z))) else Pv (i + 1) H3) (hd : ∀ H, Pv xs.length H → Qd H) :
    ∃ W : Nat → Nat → Hp → Prop, (∃ m, W 0 m (upd H1 D (.dK []))) ∧ ∀ i m H, W i m H →
      ((IteT K a).stop i H ∧ Qd H) ∨ ((IteT K a).go i H ∧ ∃ Nx : Hp → Prop, (∀ H', Nx H' → ∃ m', m' < m ∧ W (i + 1) m' H') ∧ ∀ x H', (IteT K a).yld i H x H' → g x (wipe σ vs) H' fun σ2 H2 => wipe σ2 vs = wipe σ vs ∧ tt σ2 H2 fun b H3 =>
        if b = true then tk σ2 H3 fun y H4 => tv σ2 H4 fun z H5 => ∃ kvs k, y = kV k ∧ H5 D = some (.dK kvs) ∧ kvs.length < sizeLine ∧ Nx (upd H5 D (.dK (putK kvs k z))) else Nx H3) := by
  refine ⟨fun i m H => m = xs.length - i ∧ i ≤ xs.length ∧ Pv i H, ⟨xs.length, by simp, Nat.zero_le _, h0⟩, ?_⟩
  rintro i m H ⟨rfl, hi, p⟩
  have q := hl i H hi p
  by_cases hlt : i < xs.length
  · refine .inr ⟨⟨xs, xs[i], q, by simp [hlt]⟩, Pv (i + 1), fun H' p' => ⟨xs.length - (i + 1), by omega, rfl, hlt, p'⟩, fun x H' y => ?_⟩
    obtain ⟨T, z, rfl, hT, rfl, hz⟩ := y
    exact hs i z T H (hz xs q) p hT
  · have e : i = xs.length := by omega
    subst e
    exact .inl ⟨⟨xs, q, Nat.le_refl _⟩, hd H p⟩
end K0

set_option Elab.async false
set_option linter.all false
set_option maxRecDepth 100000
set_option maxHeartbeats 1000000
namespace K0
open PySem L2
abbrev sStI : Stmt := inClass sSteps 0
abbrev sMay : Stmt := inClass sSteps 1
abbrev sInit : Stmt := inClass sPlay 0
abbrev sEnter : Stmt := inClass sPlay 1
abbrev sItem : Stmt := inClass sPlay 2
abbrev sWordOf : Stmt := inClass sPlay 3
/-- the attributes, as __init__ stores them -/
def fl (W : Nat) (ba : Addr) (lab : Nat) (wd me wr en : Addr) (st : Nat) : List (Str × V) :=
  [("blocks", .ref ba), ("label", .int (lab : Int)), ("memory", .ref me), ("writes", .ref wr), ("end", .ref en), ("steps", .int (st : Int)), ("width", .int (W : Int)), ("words", .ref wd)]
def BlocksAt (H : Hp) (ba : Addr) (F : Fn) (rows : List V) : Prop := ∃ kvs : List (Key × V), H ba = some (.dK kvs) ∧ ∀ (j : Nat) (b : Bl) (r : V), F.blocks[j]? = some b → rows[j]? = some r → valV kvs (Sum.inl (b.label : Int)) = some r
structure PlAt (C : Addr) (H : Hp) (x wd me wr : Addr) (F : Fn) (rows : List V) (p : Ps) (n : Nat) : Prop where
  ob : ∃ dx ba en, H x = some (.ins C dx (fl F.width ba p.label wd me wr en p.labels.length)) ∧ BlocksAt H ba F rows ∧ ba ≠ wd ∧ H en = some (.tup (finV p.fin))
  va : VarsAt H wd p.rs.vars n
  mem : H me = some (.lst (iv p.rs.mem))
  wri : H wr = some (.lst (iv p.rs.writes))
  ne : me ≠ wr
/-- what the walk asks of the class and the module's names -/
structure TxP (K : PySem.W.Frag) (mg : Str → Option Value) (C pP pS : Addr) : Prop where
  cl : Cls K C
  nWi : NoAttr K C "width"
  nBl : NoAttr K C "blocks"
  nLa : NoAttr K C "label"
  nWo : NoAttr K C "words"
  nMe : NoAttr K C "memory"
  nWr : NoAttr K C "writes"
  nEn : NoAttr K C "end"
  nSt : NoAttr K C "steps"
  mP : mg "PAIRS" = some (.ref pP)
  mS : mg "SINGLES" = some (.ref pS)
  tP : ∀ H, SqT K H pP ten
  tS : ∀ H, SqT K H pS [.str "not", .str "neg"]
  cells : ∃ t, mg "CELLS" = some (.int 16 t)
def spW (C : Addr) : Nat → Sp
  | 0 => fun _ _ _ _ => False
  | n + 1 => fun vs H Q _ => ∃ (x wd me wr : Addr) (F : Fn) (rows : List V) (p : Ps) (m : Nat) (v : V) (e : Ex), vs = [.ref x, v] ∧ PlAt C H x wd me wr F rows p m ∧ 1 ≤ F.width ∧ F.width ≤ 16 ∧ ExAt H e v ∧ EOk F.width e ∧ e.deep ≤ n + 1 ∧
      Good F.width p.rs.vars p.rs.mem ∧ Q (.int (ev F.width p.rs.vars p.rs.mem e : Int)) H
theorem in_ten : ∀ op ∈ tenS, inV (.str op) ten = true := by decide +kernel
theorem in_two : ∀ op : Str, (op = "not" ∨ op = "neg") → inV (.str op) ten = false ∧ inV (.str op) [.str "not", .str "neg"] = true := by
  rintro op (rfl | rfl) <;> decide +kernel
theorem in_load : inV (.str "load") ten = false ∧ inV (.str "load") [.str "not", .str "neg"] = false := by decide +kernel
section
variable {P : Program} {w : World} {K : PySem.W.Frag} {mg : Str → Option Value} {base : Heap}
theorem scW : FnScope ["self", "e", "op", "x"] ["self", "e"] (defScope sWordOf) := ⟨rfl, rfl, rfl, by decide +kernel, rfl, by decide +kernel, by decide +kernel⟩
theorem ok_wordof {f C pP pS : Addr} {fd : FuncData} (F : Fun K "word_of" "Play.word_of" sWordOf f fd) (T : TxP K mg C pP pS) (MW : Meth K C "word_of" f) (bW : Binds K fd ["self", "e"] [])
    (GC : Got P w K mg base 3 "compute" ["op", "w", "x", "y"] spComp) : ∀ n, FnOk P w K mg base CX0 (4 + n) f fd ["self", "e"] (spW C n) := by
  obtain ⟨fC, fdC, GC, mC, kC, bC⟩ := GC.ex
  obtain ⟨tc, mCe⟩ := T.cells
  intro n
  induction n with
  | zero => exact (F.ok (k := 3) scW (fun vs H Q E h => h.elim) (fun cdv A outer s H vs Q E hr h => h.elim))
  | succ n ih =>
    have e0 : 4 + (n + 1) = (4 + n) + 1 := by omega
    rw [e0]
    refine F.ok scW (fun vs H Q E h => ?_) (fun cdv A outer s H vs Q E hr h => ?_)
    · obtain ⟨x, wd, me, wr, F, rows, p, m, v, e, rfl, _⟩ := h
      rfl
    · obtain ⟨x, wd, me, wr, F, rows, p, m, v, e, rfl, PA, w1, w16, he, ok, dp, gd, q⟩ := h
      have nd := scW.nd
      have hu := hu_of hr
      have hr3 : Room 3 _ := hr.mono (by omega)
      obtain ⟨dx, ba, en, hx, _, _, _⟩ := PA.ob
      refine ⟨_, (pss_cons (ps_set (i := 2) nd rfl (.inl rfl) (pe_ix (r := rIxT K) ix_tup (pv 1) pe_int (fun _ _ => rfl))) (pss_cons (ps_if (pt_cmpR op_eq (pv 2) pe_str (nomark _)) (pss_one (ps_ret (pe_ix (r := rIxT K) ix_tup (pv 1) pe_int (fun _ _ => rfl)))) pss_nil) (pss_cons (ps_if (pt_cmpR op_eq (pv 2) pe_str (nomark _)) (pss_one (ps_ret (pe_dget2 hu (pe_fld (pv 0) rfl) (pe_ix (r := rIxT K) ix_tup (pv 1) pe_int (fun _ _ => rfl)) pe_int ⟨rfl, rfl, rfl, rfl⟩))) pss_nil) (pss_cons (ps_set (i := 3) nd rfl (.inl rfl) (pe_meth (pv 0) T.cl MW ih hr bW .nil pass0 (pa_cons (pe_ix (r := rIxT K) ix_tup (pv 1) pe_int (fun _ _ => rfl)) pa_nil))) (pss_cons (ps_if (pt_cmpR op_in_seq (pv 2) (pe_glob (v := .ref pP) (by rfl) T.mP rfl) rfl) (pss_one (ps_ret (pe_call GC hr3 (by rfl) mC kC bC .nil pass0 (pa_cons (pv 2) (pa_cons (pe_fld (pv 0) rfl) (pa_cons (pv 3) (pa_cons (pe_meth (pv 0) T.cl MW ih hr bW .nil pass0 (pa_cons (pe_ix (r := rIxT K) ix_tup (pv 1) pe_int (fun _ _ => rfl)) pa_nil)) pa_nil))))))) pss_nil) (pss_cons (ps_if (pt_cmpR op_in_seq (pv 2) (pe_glob (v := .ref pS) (by rfl) T.mS rfl) rfl) (pss_one (ps_ret (pe_call GC hr3 (by rfl) mC kC bC .nil pass0 (pa_cons (pv 2) (pa_cons (pe_fld (pv 0) rfl) (pa_cons (pv 3) (pa_cons pe_int pa_nil))))))) pss_nil) (pss_one (ps_ret (pe_ix (r := rIxL K) ix_list (pe_fld (pv 0) rfl) (pe_op op_mod (pv 3) (pe_glob (v := .int 16) (by rfl) mCe ⟨_, rfl⟩)) (fun _ _ => rfl)))))))))), ?_⟩
      cases e with
      | int k =>
        obtain ⟨a, rfl, ha⟩ := he
        refine ⟨_, rfl, a, _, _, _, rfl, rfl, .of ha, atI_nat (j := 0) rfl, ?_⟩
        refine ⟨_, rfl, rfl, _, rfl, ite2 (fun _ => ?_) (fun e => absurd dT e)⟩
        exact ⟨_, rfl, a, _, _, _, rfl, rfl, .of ha, atI_nat (j := 1) rfl, q⟩
      | var k =>
        obtain ⟨a, rfl, ha⟩ := he
        obtain ⟨kvs, hk, lk, hv⟩ := PA.va
        refine ⟨_, rfl, a, _, _, _, rfl, rfl, .of ha, atI_nat (j := 0) rfl, ?_⟩
        refine ⟨_, rfl, rfl, _, rfl, ite2 (fun e => absurd e (dN (by decide +kernel))) (fun _ => ?_)⟩
        refine ⟨_, rfl, rfl, _, rfl, ite2 (fun _ => ?_) (fun e => absurd dT e)⟩
        refine ⟨_, rfl, x, C, dx, _, _, rfl, hx, T.cl, T.nWo, rfl, wd, rfl, .inl ⟨kvs, .of hk⟩, _, rfl, a, _, _, _, rfl, rfl, .of ha, atI_nat (j := 1) rfl, _, DGet.k (k := Sum.inl (k : Int)) hk, ?_⟩
        rw [hv k]
        exact q
      | load e =>
        obtain ⟨a, u, rfl, ha, he⟩ := he
        obtain ⟨n, rfl⟩ : ∃ k, n = k + 1 := ⟨n - 1, by have : e.deep + 1 ≤ n + 1 := dp; have : 1 ≤ e.deep := (by cases e <;> exact Nat.le_add_left 1 _); omega⟩
        refine ⟨_, rfl, a, _, _, _, rfl, rfl, .of ha, atI_nat (j := 0) rfl, ?_⟩
        refine ⟨_, rfl, rfl, _, rfl, ite2 (fun e => absurd e (dN (by decide +kernel))) (fun _ => ?_)⟩
        refine ⟨_, rfl, rfl, _, rfl, ite2 (fun e => absurd e (dN (by decide +kernel))) (fun _ => ?_)⟩
        refine ⟨_, rfl, x, dx, _, rfl, hx, rfl, _, rfl, a, _, _, _, rfl, rfl, .of ha, atI_nat (j := 1) rfl, x, wd, me, wr, F, rows, p, m, u, e, rfl, PA, w1, w16, he, ok, Nat.le_of_succ_le_succ dp, gd, ?_⟩
        refine ⟨_, rfl, pP, _, rfl, .inr (T.tP _), rfl, rfl, _, rfl, ?_⟩
        show if inV (.str "load") ten = true then _ else _
        rw [in_load.1]
        refine iteF ?_
        refine ⟨_, rfl, pS, _, rfl, .inr (T.tS _), rfl, rfl, _, rfl, ?_⟩
        show if inV (.str "load") [.str "not", .str "neg"] = true then _ else _
        rw [in_load.2]
        refine iteF ?_
        have hg := (gd.get (ev F.width p.rs.vars p.rs.mem e)).1
        have hgi : (iv p.rs.mem)[ev F.width p.rs.vars p.rs.mem e % 16]? = some (.int (p.rs.mem.getD (ev F.width p.rs.vars p.rs.mem e % 16) 0 : Int)) := by
          rw [List.getElem?_map, hg]
          rfl
        exact ⟨_, rfl, x, C, dx, _, _, rfl, hx, T.cl, T.nMe, rfl, _, rfl, _, 16, rfl, rfl, (by show (0 : Int) < 16; decide), me, _, _, _, rfl, rfl, .of PA.mem, at_of (j := ev F.width p.rs.vars p.rs.mem e % 16) (by omega) hgi, q⟩
      | one op e =>
        obtain ⟨a, u, rfl, ha, he⟩ := he
        obtain ⟨ho, ok⟩ := ok
        obtain ⟨o1, o2, o3⟩ := nots ho
        obtain ⟨i1, i2⟩ := in_two op ho
        obtain ⟨n, rfl⟩ : ∃ k, n = k + 1 := ⟨n - 1, by have : e.deep + 1 ≤ n + 1 := dp; have : 1 ≤ e.deep := (by cases e <;> exact Nat.le_add_left 1 _); omega⟩
        refine ⟨_, rfl, a, _, _, _, rfl, rfl, .of ha, atI_nat (j := 0) rfl, ?_⟩
        refine ⟨_, rfl, rfl, _, rfl, ite2 (fun e => absurd e (dN o1)) (fun _ => ?_)⟩
        refine ⟨_, rfl, rfl, _, rfl, ite2 (fun e => absurd e (dN o2)) (fun _ => ?_)⟩
        refine ⟨_, rfl, x, dx, _, rfl, hx, rfl, _, rfl, a, _, _, _, rfl, rfl, .of ha, atI_nat (j := 1) rfl, x, wd, me, wr, F, rows, p, m, u, e, rfl, PA, w1, w16, he, ok, Nat.le_of_succ_le_succ dp, gd, ?_⟩
        refine ⟨_, rfl, pP, _, rfl, .inr (T.tP _), rfl, rfl, _, rfl, ?_⟩
        show if inV (.str op) ten = true then _ else _
        rw [i1]
        refine iteF ?_
        refine ⟨_, rfl, pS, _, rfl, .inr (T.tS _), rfl, rfl, _, rfl, ?_⟩
        show if inV (.str op) [.str "not", .str "neg"] = true then _ else _
        rw [i2]
        refine iteT ?_
        have l1 := ev_lt w1 gd ok
        have l2 : 0 < 2 ^ F.width := Nat.pow_pos (by decide)
        have hc := (cw_eq (mem2 ho) w1 l1 l2).1
        refine ⟨_, rfl, _, rfl, x, C, dx, _, _, rfl, hx, T.cl, T.nWi, rfl, _, rfl, op, gOf op, F.width, ev F.width p.rs.vars p.rs.mem e, 0, rfl, gOf_mem (mem2 ho), w1, w16, l1, l2, ?_⟩
        rw [hc]
        exact q
      | two op e e2 =>
        obtain ⟨a, u, y, rfl, ha, he, he2⟩ := he
        obtain ⟨ho, ok, ok2⟩ := ok
        obtain ⟨o1, o2, o3⟩ := nI op ho
        have i1 := in_ten op ho
        have dd : max e.deep e2.deep + 1 ≤ n + 1 := dp
        obtain ⟨n, rfl⟩ : ∃ k, n = k + 1 := ⟨n - 1, by have : 1 ≤ e.deep := (by cases e <;> exact Nat.le_add_left 1 _); omega⟩
        refine ⟨_, rfl, a, _, _, _, rfl, rfl, .of ha, atI_nat (j := 0) rfl, ?_⟩
        refine ⟨_, rfl, rfl, _, rfl, ite2 (fun e => absurd e (dN o1)) (fun _ => ?_)⟩
        refine ⟨_, rfl, rfl, _, rfl, ite2 (fun e => absurd e (dN o2)) (fun _ => ?_)⟩
        refine ⟨_, rfl, x, dx, _, rfl, hx, rfl, _, rfl, a, _, _, _, rfl, rfl, .of ha, atI_nat (j := 1) rfl, x, wd, me, wr, F, rows, p, m, u, e, rfl, PA, w1, w16, he, ok, by omega, gd, ?_⟩
        refine ⟨_, rfl, pP, _, rfl, .inr (T.tP _), rfl, rfl, _, rfl, ?_⟩
        show if inV (.str op) ten = true then _ else _
        rw [i1]
        refine iteT ?_
        have l1 := ev_lt w1 gd ok
        have l2 := ev_lt w1 gd ok2
        have hc := (cw_eq (mem12 ho) w1 l1 l2).1
        refine ⟨_, rfl, _, rfl, x, C, dx, _, _, rfl, hx, T.cl, T.nWi, rfl, _, rfl, _, rfl, x, dx, _, rfl, hx, rfl, _, rfl, a, _, _, _, rfl, rfl, .of ha, atI_nat (j := 2) rfl, x, wd, me, wr, F, rows, p, m, y, e2, rfl, PA, w1, w16, he2, ok2, by omega, gd, ?_⟩
        refine ⟨op, gOf op, F.width, ev F.width p.rs.vars p.rs.mem e, ev F.width p.rs.vars p.rs.mem e2, rfl, gOf_mem (mem12 ho), w1, w16, l1, l2, ?_⟩
        rw [hc]
        exact q
end
end K0

set_option Elab.async false
set_option linter.all false
set_option maxRecDepth 100000
set_option maxHeartbeats 1000000
namespace K0
open PySem L2
theorem PlAt.objs {C x wd me wr : Addr} {H : Hp} {F : Fn} {rows : List V} {p : Ps} {n : Nat} (A : PlAt C H x wd me wr F rows p n) : x ≠ wd ∧ x ≠ me ∧ x ≠ wr ∧ wd ≠ me ∧ wd ≠ wr ∧ me ≠ wr := by
  obtain ⟨dx, ba, en, hx, _⟩ := A.ob
  obtain ⟨kvs, hk, _⟩ := A.va
  exact ⟨ne_of hx hk (by intro z; cases z), ne_of hx A.mem (by intro z; cases z), ne_of hx A.wri (by intro z; cases z), ne_of hk A.mem (by intro z; cases z), ne_of hk A.wri (by intro z; cases z), A.ne⟩
/-- all but the words, the memory and the writes is as it was -/
def K3 (wd me wr : Addr) (H H' : Hp) : Prop := ∀ b o, H b = some o → b ≠ wd → b ≠ me → b ≠ wr → H' b = some o
/-- all but the play's own is as it was -/
def K4 (x wd me wr : Addr) (H H' : Hp) : Prop := ∀ b o, H b = some o → b ≠ x → b ≠ wd → b ≠ me → b ≠ wr → H' b = some o
theorem K3.tups {C x wd me wr : Addr} {H H' : Hp} {F : Fn} {rows : List V} {p : Ps} {n : Nat} (A : PlAt C H x wd me wr F rows p n) (k : K3 wd me wr H H') : Tups H H' := fun b xs e => by
  obtain ⟨kvs, hk, _⟩ := A.va
  exact k b _ e (ne_of e hk (by intro z; cases z)) (ne_of e A.mem (by intro z; cases z)) (ne_of e A.wri (by intro z; cases z))
def spDo (C : Addr) : Sp := fun vs H Q _ => ∃ (x wd me wr : Addr) (F : Fn) (rows : List V) (p : Ps) (m : Nat) (v : V) (s : Sm), vs = [.ref x, v] ∧ PlAt C H x wd me wr F rows p m ∧ 1 ≤ F.width ∧ F.width ≤ 16 ∧ SmAt H s v ∧ SmOk F.width s ∧
  Good F.width p.rs.vars p.rs.mem ∧ m ≤ 90000 ∧ p.rs.writes.length ≤ 90000 ∧ ∀ H', PlAt C H' x wd me wr F rows { p with rs := doS F.width p.rs s } (m + 1) → K3 wd me wr H H' → Q .non H'
def spMay (C : Addr) : Sp := fun vs H Q _ => ∃ (x wd me wr : Addr) (F : Fn) (rows : List V) (p : Ps) (m : Nat) (fuel : Nat), vs = [.ref x, .int (fuel : Int)] ∧ PlAt C H x wd me wr F rows p m ∧ Q (.bl (p.fin.isNone && decide (p.labels.length < fuel))) H
/-- word_of as it is called -/
structure GotW (P : Program) (w : World) (K : PySem.W.Frag) (mg : Str → Option Value) (base : Heap) (C : Addr) : Prop where
  ex : ∃ (f : Addr) (fd : FuncData), (∀ n, FnOk P w K mg base CX0 (4 + n) f fd ["self", "e"] (spW C n)) ∧ Meth K C "word_of" f ∧ Binds K fd ["self", "e"] []
/-- a method as it is called -/
structure GotM (P : Program) (w : World) (K : PySem.W.Frag) (mg : Str → Option Value) (base : Heap) (C : Addr) (k : Nat) (m : Str) (ps : List Str) (sp : Sp) : Prop where
  ex : ∃ (f : Addr) (fd : FuncData), FnOk P w K mg base CX0 k f fd ps sp ∧ Meth K C m f ∧ Binds K fd ps []
section
variable {P : Program} {w : World} {K : PySem.W.Frag} {mg : Str → Option Value} {base : Heap}
theorem scD : FnScope ["self", "item", "place"] ["self", "item"] (defScope sItem) := ⟨rfl, rfl, rfl, by decide +kernel, rfl, by decide +kernel, by decide +kernel⟩
theorem ok_item {f C pP pS : Addr} {fd : FuncData} (F : Fun K "do_item" "Play.do_item" sItem f fd) (T : TxP K mg C pP pS) (GW : GotW P w K mg base C) : FnOk P w K mg base CX0 8 f fd ["self", "item"] (spDo C) := by
  obtain ⟨fW, fdW, GWn, MW, bW⟩ := GW.ex
  have GW := GWn 3
  obtain ⟨tc, mCe⟩ := T.cells
  refine F.ok scD (fun vs H Q E h => ?_) (fun cdv A outer s H vs Q E hr h => ?_)
  · obtain ⟨x, wd, me, wr, F, rows, p, m, v, s, rfl, _⟩ := h
    rfl
  · obtain ⟨x, wd, me, wr, F, rows, p, m, v, st, rfl, PA, w1, w16, hs, ok, gd, hm9, hw9, q⟩ := h
    have nd := scD.nd
    have hu := hu_of hr
    have hrW : Room (4 + 3) _ := hr
    obtain ⟨dx, ba, en, hx, hb, nbw, hen⟩ := id PA.ob
    obtain ⟨n1, n2, n3, n4, n5, n6⟩ := PA.objs
    obtain ⟨bk, hbk, _⟩ := id hb
    have nbm : ba ≠ me := ne_of hbk PA.mem (by intro z; cases z)
    have nbr : ba ≠ wr := ne_of hbk PA.wri (by intro z; cases z)
    obtain ⟨kvs, hk, lk, hv⟩ := id PA.va
    have nem : en ≠ me := ne_of hen PA.mem (by intro z; cases z)
    have ner : en ≠ wr := ne_of hen PA.wri (by intro z; cases z)
    have new : en ≠ wd := ne_of hen hk (by intro z; cases z)
    refine ⟨_, (pss_one (ps_if (pt_cmpR op_eq (pe_ix (r := rIxT K) ix_tup (pv 1) pe_int (fun _ _ => rfl)) pe_str (nomark _)) (pss_one (ps_dput hu (pe_fld (pv 0) rfl) (pe_ix (r := rIxT K) ix_tup (pv 1) pe_int (fun _ _ => rfl)) (pe_meth (pv 0) T.cl MW GW hrW bW .nil pass0 (pa_cons (pe_ix (r := rIxT K) ix_tup (pv 1) pe_int (fun _ _ => rfl)) pa_nil)) rfl)) (pss_one (ps_if (pt_cmpR op_eq (pe_ix (r := rIxT K) ix_tup (pv 1) pe_int (fun _ _ => rfl)) pe_str (nomark _)) (pss_one (ps_expr (pe_bm PySem.F.plainAttrs_list PySem.F.slot_list_append PySem.F.type_list_append mt_append (pe_fld (pv 0) rfl) (pa_cons (pe_meth (pv 0) T.cl MW GW hrW bW .nil pass0 (pa_cons (pe_ix (r := rIxT K) ix_tup (pv 1) pe_int (fun _ _ => rfl)) pa_nil)) pa_nil)))) (pss_cons (ps_set (i := 2) nd rfl (.inl rfl) (pe_op op_mod (pe_meth (pv 0) T.cl MW GW hrW bW .nil pass0 (pa_cons (pe_ix (r := rIxT K) ix_tup (pv 1) pe_int (fun _ _ => rfl)) pa_nil)) (pe_glob (v := .int 16) (by rfl) mCe ⟨_, rfl⟩))) (pss_one (ps_asg (pe_meth (pv 0) T.cl MW GW hrW bW .nil pass0 (pa_cons (pe_ix (r := rIxT K) ix_tup (pv 1) pe_int (fun _ _ => rfl)) pa_nil)) (pg_sub (pe_fld (pv 0) rfl) (pv 2) set_list)))))))), ?_⟩
    cases st with
    | set y e =>
      obtain ⟨a, u, rfl, ha, he⟩ := hs
      refine ⟨_, rfl, a, _, _, _, rfl, rfl, .of ha, atI_nat (j := 0) rfl, rfl, _, rfl, ite2 (fun _ => ?_) (fun e => absurd dT e)⟩
      refine ⟨_, rfl, x, dx, _, rfl, hx, rfl, _, rfl, a, _, _, _, rfl, rfl, .of ha, atI_nat (j := 2) rfl, x, wd, me, wr, F, rows, p, m, u, e, rfl, PA, w1, w16, he, ok.2.1, ok.2.2, gd, ?_⟩
      refine ⟨_, rfl, x, C, dx, _, _, rfl, hx, T.cl, T.nWo, rfl, _, rfl, a, _, _, _, rfl, rfl, .of ha, atI_nat (j := 1) rfl, wd, _, rfl, DPut.k (k := Sum.inl (y : Int)) hk (big (by omega)), ?_⟩
      refine q _ ⟨⟨dx, ba, en, by rw [upd_ne n1]; exact hx, ?_, nbw, by rw [upd_ne new]; exact hen⟩, VarsAt.put lk hv y _, by rw [upd_ne n4.symm]; exact PA.mem, by rw [upd_ne n5.symm]; exact PA.wri, n6⟩ fun b o e h1 h2 h3 => by rw [upd_ne h1]; exact e
      obtain ⟨k2, e1, e2⟩ := hb
      exact ⟨k2, by rw [upd_ne nbw]; exact e1, e2⟩
    | write e =>
      obtain ⟨a, u, rfl, ha, he⟩ := hs
      refine ⟨_, rfl, a, _, _, _, rfl, rfl, .of ha, atI_nat (j := 0) rfl, rfl, _, rfl, ite2 (fun e => absurd e (dN (by decide +kernel))) (fun _ => ?_)⟩
      refine ⟨_, rfl, a, _, _, _, rfl, rfl, .of ha, atI_nat (j := 0) rfl, rfl, _, rfl, ite2 (fun _ => ?_) (fun e => absurd dT e)⟩
      refine ⟨_, rfl, x, C, dx, _, _, rfl, hx, T.cl, T.nWr, rfl, .inl ⟨rfl, _, .of PA.wri⟩, _, rfl, x, dx, _, rfl, hx, rfl, _, rfl, a, _, _, _, rfl, rfl, .of ha, atI_nat (j := 1) rfl, x, wd, me, wr, F, rows, p, m, u, e, rfl, PA, w1, w16, he, ok.1, ok.2, gd, ?_⟩
      refine ⟨wr, _, _, rfl, rfl, PA.wri, big (by rw [List.length_map]; omega), ?_⟩
      refine q _ ⟨⟨dx, ba, en, by rw [upd_ne n3]; exact hx, ?_, nbw, by rw [upd_ne ner]; exact hen⟩, ⟨kvs, by rw [upd_ne n5]; exact hk, by omega, hv⟩, by rw [upd_ne n6]; exact PA.mem, ?_, n6⟩ fun b o e h1 h2 h3 => by rw [upd_ne h3]; exact e
      · obtain ⟨k2, e1, e2⟩ := hb
        exact ⟨k2, by rw [upd_ne nbr]; exact e1, e2⟩
      · rw [upd_same]
        show some (HO.lst (iv p.rs.writes ++ [V.int (ev F.width p.rs.vars p.rs.mem e : Int)])) = some (HO.lst (iv (p.rs.writes ++ [ev F.width p.rs.vars p.rs.mem e])))
        unfold iv
        rw [List.map_append]
        rfl
    | store z e =>
      obtain ⟨a, u, y, rfl, ha, he, he2⟩ := hs
      refine ⟨_, rfl, a, _, _, _, rfl, rfl, .of ha, atI_nat (j := 0) rfl, rfl, _, rfl, ite2 (fun e => absurd e (dN (by decide +kernel))) (fun _ => ?_)⟩
      refine ⟨_, rfl, a, _, _, _, rfl, rfl, .of ha, atI_nat (j := 0) rfl, rfl, _, rfl, ite2 (fun e => absurd e (dN (by decide +kernel))) (fun _ => ?_)⟩
      refine ⟨_, rfl, x, dx, _, rfl, hx, rfl, _, rfl, a, _, _, _, rfl, rfl, .of ha, atI_nat (j := 1) rfl, x, wd, me, wr, F, rows, p, m, u, z, rfl, PA, w1, w16, he, ok.1.1, ok.1.2, gd, _, 16, rfl, rfl, (by show (0 : Int) < 16; decide), ?_⟩
      refine ⟨_, rfl, x, dx, _, rfl, hx, rfl, _, rfl, a, _, _, _, rfl, rfl, .of ha, atI_nat (j := 2) rfl, x, wd, me, wr, F, rows, p, m, y, e, rfl, PA, w1, w16, he2, ok.2.1, ok.2.2, gd, ?_⟩
      have hix : ixN (iv p.rs.mem).length ((ev F.width p.rs.vars p.rs.mem z : Int) % 16) = some (ev F.width p.rs.vars p.rs.mem z % 16) := by
        rw [List.length_map, gd.len]
        unfold ixN
        rw [if_pos (by omega), if_pos (by omega)]
        exact congrArg some (by omega)
      refine ⟨_, rfl, x, C, dx, _, _, rfl, hx, T.cl, T.nMe, rfl, _, rfl, me, _, _, _, rfl, rfl, PA.mem, hix, ?_⟩
      refine q _ ⟨⟨dx, ba, en, by rw [upd_ne n2]; exact hx, ?_, nbw, by rw [upd_ne nem]; exact hen⟩, ⟨kvs, by rw [upd_ne n4]; exact hk, by omega, hv⟩, ?_, by rw [upd_ne n6.symm]; exact PA.wri, n6⟩ fun b o e h1 h2 h3 => by rw [upd_ne h2]; exact e
      · obtain ⟨k2, e1, e2⟩ := hb
        exact ⟨k2, by rw [upd_ne nbm]; exact e1, e2⟩
      · rw [upd_same]
        show some (HO.lst ((iv p.rs.mem).set _ _)) = some (HO.lst (iv (p.rs.mem.set _ _)))
        unfold iv
        rw [List.map_set]
theorem scM : FnScope ["self", "fuel"] ["self", "fuel"] (defScope sMay) := ⟨rfl, rfl, rfl, by decide +kernel, rfl, by decide +kernel, by decide +kernel⟩
theorem ok_may {f C pP pS : Addr} {fd : FuncData} (F : Fun K "may_enter" "Steps.may_enter" sMay f fd) (T : TxP K mg C pP pS) : FnOk P w K mg base CX0 1 f fd ["self", "fuel"] (spMay C) := by
  refine F.ok scM (fun vs H Q E h => ?_) (fun cdv A outer s H vs Q E hr h => ?_)
  · obtain ⟨x, wd, me, wr, F, rows, p, m, fuel, rfl, _⟩ := h
    rfl
  · obtain ⟨x, wd, me, wr, F, rows, p, m, fuel, rfl, PA, q⟩ := h
    obtain ⟨dx, ba, en, hx, hb, nbw, hen⟩ := id PA.ob
    refine ⟨_, (pss_one (ps_ret (pe_and (pe_cmpR op_eq (pe_ix (r := rIxT K) ix_tup (pe_fld (pv 0) rfl) pe_int (fun _ _ => rfl)) pe_str (nomark _)) (pe_one (pe_cmpR op_lt (pe_fld (pv 0) rfl) (pv 1) (nomark _)))))), ?_⟩
    cases hf : p.fin with
    | some z =>
      rw [hf] at hen q
      refine ⟨_, rfl, x, C, dx, _, _, rfl, hx, T.cl, T.nEn, rfl, en, _, _, _, rfl, rfl, .of hen, atI_nat (j := 0) rfl, rfl, _, rfl, ite2 (fun e => absurd e (dN (by decide +kernel))) (fun _ => ?_)⟩
      exact q
    | none =>
      rw [hf] at hen q
      refine ⟨_, rfl, x, C, dx, _, _, rfl, hx, T.cl, T.nEn, rfl, en, _, _, _, rfl, rfl, .of hen, atI_nat (j := 0) rfl, rfl, _, rfl, ite2 (fun _ => ?_) (fun e => absurd dT e)⟩
      refine ⟨_, rfl, x, C, dx, _, _, rfl, hx, T.cl, T.nSt, rfl, _, rfl, _, _, rfl, rfl, ?_⟩
      have e : decide ((p.labels.length : Int) < (fuel : Int)) = ((none : Option Nat).isNone && decide (p.labels.length < fuel)) := by
        show _ = (true && _)
        rw [Bool.true_and]
        exact decide_eq_decide.mpr (by omega)
      show Q (V.bl (decide ((p.labels.length : Int) < (fuel : Int)))) H
      rw [e]
      exact q
end
end K0

set_option Elab.async false
set_option linter.all false
set_option maxRecDepth 100000
set_option maxHeartbeats 1000000
namespace K0
open PySem L2
theorem fl_st (W : Nat) (ba : Addr) (lab : Nat) (wd me wr en : Addr) (st : Nat) : putF "steps" (.int ((st : Int) + 1)) (fl W ba lab wd me wr en st) = fl W ba lab wd me wr en (st + 1) := rfl
theorem fl_en (W : Nat) (ba : Addr) (lab : Nat) (wd me wr en en' : Addr) (st : Nat) : putF "end" (.ref en') (fl W ba lab wd me wr en st) = fl W ba lab wd me wr en' st := rfl
theorem fl_la (W : Nat) (ba : Addr) (lab lab' : Nat) (wd me wr en : Addr) (st : Nat) : putF "label" (.int (lab' : Int)) (fl W ba lab wd me wr en st) = fl W ba lab' wd me wr en st := rfl
theorem PlAt.same {C x wd me wr : Addr} {H H' : Hp} {F : Fn} {rows : List V} {p : Ps} {n : Nat} (A : PlAt C H x wd me wr F rows p n) (s : Same H H') : PlAt C H' x wd me wr F rows p n := by
  obtain ⟨dx, ba, en, hx, ⟨kvs, e1, e2⟩, nb, hen⟩ := A.ob
  exact ⟨⟨dx, ba, en, s _ _ hx, ⟨kvs, s _ _ e1, e2⟩, nb, s _ _ hen⟩, A.va.same s, s _ _ A.mem, s _ _ A.wri, A.ne⟩
theorem PlAt.upx {C x wd me wr dx ba en en' : Addr} {H : Hp} {F : Fn} {rows : List V} {p p' : Ps} {n : Nat} (A : PlAt C H x wd me wr F rows p n) (hx : H x = some (.ins C dx (fl F.width ba p.label wd me wr en p.labels.length))) (hb : BlocksAt H ba F rows) (nb : ba ≠ wd)
    (hen : H en' = some (.tup (finV p'.fin))) (ers : p'.rs = p.rs) : PlAt C (upd H x (.ins C dx (fl F.width ba p'.label wd me wr en' p'.labels.length))) x wd me wr F rows p' n := by
  obtain ⟨n1, n2, n3, n4, n5, n6⟩ := A.objs
  obtain ⟨kvs, hk, lk, hv⟩ := A.va
  obtain ⟨bk, e1, e2⟩ := hb
  refine ⟨⟨dx, ba, en', upd_same, ⟨bk, by rw [upd_ne (ne_of e1 hx (by intro z; cases z))]; exact e1, e2⟩, nb, by rw [upd_ne (ne_of hen hx (by intro z; cases z))]; exact hen⟩, ?_, ?_, ?_, n6⟩
  · rw [ers]
    exact ⟨kvs, by rw [upd_ne n1.symm]; exact hk, lk, hv⟩
  · rw [ers, upd_ne n2.symm]
    exact A.mem
  · rw [ers, upd_ne n3.symm]
    exact A.wri
theorem K4.tups {C x wd me wr : Addr} {H H' : Hp} {F : Fn} {rows : List V} {p : Ps} {n : Nat} (A : PlAt C H x wd me wr F rows p n) (k : K4 x wd me wr H H') : Tups H H' := fun b xs e => by
  obtain ⟨dx, ba, en, hx, _⟩ := A.ob
  obtain ⟨kvs, hk, _⟩ := A.va
  exact k b _ e (ne_of e hx (by intro z; cases z)) (ne_of e hk (by intro z; cases z)) (ne_of e A.mem (by intro z; cases z)) (ne_of e A.wri (by intro z; cases z))
def spEnter (C : Addr) : Sp := fun vs H Q _ => ∃ (x wd me wr : Addr) (nb mo : Nat) (F : Fn) (rows : List V) (p : Ps), vs = [.ref x] ∧ PlAt C H x wd me wr F rows p (6 + 40 * p.labels.length) ∧ FnOk' nb mo F ∧ mo ≤ 40 ∧ PsOk nb mo F p ∧ p.fin = none ∧ Paired (BlAt H) F.blocks rows ∧
  p.labels.length ≤ 60 ∧ p.rs.writes.length ≤ 40 * p.labels.length ∧ ∀ H', PlAt C H' x wd me wr F rows (stepP F p) (6 + 40 * (stepP F p).labels.length) → (stepP F p).rs.writes.length ≤ 40 * (stepP F p).labels.length → K4 x wd me wr H H' → Q .non H'
def spInit (C : Addr) : Sp := fun vs H Q _ => ∃ (x dx ia : Addr) (nb mo : Nat) (F : Fn) (v : V) (ws : List Nat), vs = [.ref x, v, .ref ia] ∧ H x = some (.ins C dx []) ∧ FnAt H F v ∧ FnOk' nb mo F ∧ nb ≤ 40 ∧ H ia = some (.tup (iv ws)) ∧ ws.length ≤ 6 ∧
  ∀ (wd me wr : Addr) (rows : List V) (H' : Hp), PlAt C H' x wd me wr F rows (p0 F ws) 6 → Paired (BlAt H) F.blocks rows → (∀ b o, H b = some o → b ≠ x → H' b = some o) → H wd = none → H me = none → H wr = none → Q .non H'
abbrev NIn : List Str := ["self", "function", "inputs", "v", "word"]
section
variable {P : Program} {w : World} {K : PySem.W.Frag} {mg : Str → Option Value} {base : Heap}
theorem scEn : FnScope ["self", "_", "body", "end", "item"] ["self"] (defScope sEnter) := ⟨rfl, rfl, rfl, by decide +kernel, rfl, by decide +kernel, by decide +kernel⟩
theorem ok_enter {f C pP pS : Addr} {fd : FuncData} (F : Fun K "enter" "Play.enter" sEnter f fd) (T : TxP K mg C pP pS) (GW : GotW P w K mg base C) (GD : GotM P w K mg base C 8 "do_item" ["self", "item"] (spDo C)) : FnOk P w K mg base CX0 9 f fd ["self"] (spEnter C) := by
  obtain ⟨fW, fdW, GWn, MW, bW⟩ := GW.ex
  have GW := GWn 3
  obtain ⟨fD, fdD, GD, MD, bD⟩ := GD.ex
  refine F.ok scEn (fun vs H Q E h => ?_) (fun cdv A outer s H vs Q E hr h => ?_)
  · obtain ⟨x, wd, me, wr, nb, mo, F, rows, p, rfl, _⟩ := h
    rfl
  · obtain ⟨x, wd, me, wr, nb, mo, F, rows, p, rfl, PA, ok, mo40, pok, pf, pr, l60, lw, q⟩ := h
    have nd := scEn.nd
    have hu := hu_of hr
    have hrW : Room (4 + 3) _ := hr.mono (by decide)
    have w1 := ok.w1
    have w16 := ok.w16
    obtain ⟨dx, ba, en, hx, hb, nbw, hen⟩ := id PA.ob
    obtain ⟨n1, n2, n3, n4, n5, n6⟩ := PA.objs
    obtain ⟨j0, b, hj0, hbl⟩ := lab_ix pok.lab
    have hblk : blk F p.label = b := by
      rw [← hbl]
      exact blk_at ok.nd hj0
    obtain ⟨r1, hr1, a1, sa1, u1, vs1, rfl, ha1, hs1, ps1, en1⟩ := prd_get pr hj0
    obtain ⟨k1, k2, k3⟩ := ok.ok b (List.mem_of_getElem? hj0)
    refine ⟨_, (pss_cons (ps_fldaug (pv 0) pe_int in_add) (pss_cons (ps_asg (pe_dget hu (pe_fld (pv 0) rfl) (pe_fld (pv 0) rfl) (fun _ _ => rfl)) (pg_tup rfl (pgs_cons (pg_name (i := 1) nd rfl (.inl rfl)) (pgs_cons (pg_name (i := 2) nd rfl (.inl rfl)) (pgs_cons (pg_name (i := 3) nd rfl (.inl rfl)) pgs_nil))))) (pss_cons (ps_for PassesOwn.never rfl (pi_tup (pv 2)) (pg_name (i := 4) nd rfl (.inl rfl)) (pss_one (ps_expr (pe_meth (pv 0) T.cl MD GD hr bD .nil pass0 (pa_cons (pv 4) pa_nil))))) (pss_one (ps_if (pt_cmpR op_eq (pe_ix (r := rIxT K) ix_tup (pv 3) pe_int (fun _ _ => rfl)) pe_str (nomark _)) (pss_one (ps_fld (pv 0) (pe_tup (pa_cons pe_str (pa_cons (pe_meth (pv 0) T.cl MW GW hrW bW .nil pass0 (pa_cons (pe_ix (r := rIxT K) ix_tup (pv 3) pe_int (fun _ _ => rfl)) pa_nil)) pa_nil))) rfl)) (pss_one (ps_if (pt_cmpR op_eq (pe_ix (r := rIxT K) ix_tup (pv 3) pe_int (fun _ _ => rfl)) pe_str (nomark _)) (pss_one (ps_fld (pv 0) (pe_ix (r := rIxT K) ix_tup (pv 3) pe_int (fun _ _ => rfl)) rfl)) (pss_one (ps_fld (pv 0) (pe_ifExp (pt_cmpR op_ne (pe_meth (pv 0) T.cl MW GW hrW bW .nil pass0 (pa_cons (pe_ix (r := rIxT K) ix_tup (pv 3) pe_int (fun _ _ => rfl)) pa_nil)) pe_int (nomark _)) (pe_ix (r := rIxT K) ix_tup (pv 3) pe_int (fun _ _ => rfl)) (pe_ix (r := rIxT K) ix_tup (pv 3) pe_int (fun _ _ => rfl))) rfl))))))))), ?_⟩
    -- steps
    refine ⟨_, rfl, x, C, dx, _, _, rfl, hx, T.cl, T.nSt, rfl, _, _, rfl, rfl, dx, _, hx, (by show 8 < 1000; decide), ?_⟩
    have PB := PA.upx (p' := ⟨p.rs, p.label, p.labels ++ [p.label], none⟩) hx hb nbw (en' := en) (by rw [pf] at hen; exact hen) rfl
    have hll : (p.labels ++ [p.label]).length = p.labels.length + 1 := by
      rw [List.length_append]
      rfl
    have hxe : (upd H x (.ins C dx (putF "steps" (.int ((p.labels.length : Int) + 1)) (fl F.width ba p.label wd me wr en p.labels.length)))) = upd H x (.ins C dx (fl F.width ba p.label wd me wr en (p.labels ++ [p.label]).length)) := by
      rw [fl_st, hll]
    have kA : K4 x wd me wr H (upd H x (.ins C dx (putF "steps" (.int ((p.labels.length : Int) + 1)) (fl F.width ba p.label wd me wr en p.labels.length)))) := fun b o e h1 h2 h3 h4 => by
      rw [upd_ne h1]
      exact e
    have PB' : PlAt C (upd H x (.ins C dx (putF "steps" (.int ((p.labels.length : Int) + 1)) (fl F.width ba p.label wd me wr en p.labels.length)))) x wd me wr F rows ⟨p.rs, p.label, p.labels ++ [p.label], none⟩ (6 + 40 * p.labels.length) := by
      rw [hxe]
      exact PB
    generalize hH1 : (upd H x (.ins C dx (putF "steps" (.int ((p.labels.length : Int) + 1)) (fl F.width ba p.label wd me wr en p.labels.length)))) = H1 at PB' kA ⊢
    have tA := K4.tups PA kA
    obtain ⟨dx1, ba1, en1', hx1, hb1, nbw1, hen1⟩ := id PB'.ob
    obtain ⟨bk, e1, e2⟩ := id hb1
    have hval : valV bk (Sum.inl (p.label : Int)) = some (.ref a1) := by
      rw [← hbl]
      exact e2 j0 b _ hj0 hr1
    have hget : DGet H1 ba1 (.int (p.label : Int)) (some (.ref a1)) := by
      have := DGet.k (k := Sum.inl (p.label : Int)) e1
      rw [hval] at this
      exact this
    refine ⟨_, rfl, x, C, dx1, _, _, rfl, hx1, T.cl, T.nBl, rfl, _, rfl, x, C, dx1, _, _, rfl, hx1, T.cl, T.nLa, rfl, ba1, _, rfl, hget, ?_⟩
    refine ⟨a1, _, rfl, .of (tA _ _ ha1), rfl, _, _, rfl, _, _, rfl, _, _, rfl, rfl, ?_⟩
    -- the statements
    refine ⟨_, rfl, sa1, rfl, ⟨_, .of (tA _ _ hs1)⟩, for_tup (xs := vs1) (fun i σ H' => ∃ (y4 : Option V), σ = [some (.ref x), some (.int (b.label : Int)), some (.ref sa1), some u1, y4] ∧ PlAt C H' x wd me wr F rows ⟨(b.body.take i).foldl (doS F.width) p.rs, p.label, p.labels ++ [p.label], none⟩ (6 + 40 * p.labels.length + i) ∧
        K4 x wd me wr H H' ∧ ((b.body.take i).foldl (doS F.width) p.rs).writes.length ≤ 40 * p.labels.length + i)
      ⟨none, rfl, PB', kA, lw⟩ ?_ ?_ ?_⟩
    · rintro i σ H' _ ⟨y4, _, _, k4, _⟩
      exact .of (K4.tups PA k4 _ _ hs1)
    · rintro i v σ H2 hv ⟨y4, rfl, P2, k4, lw2⟩
      obtain ⟨st, hst, at2⟩ := prd_get' ps1 hv
      have hok := k1 st (List.mem_of_getElem? hst)
      have il : i < b.body.length := (List.getElem?_eq_some_iff.mp hst).1
      have est : (b.body.take (i + 1)).foldl (doS F.width) p.rs = doS F.width ((b.body.take i).foldl (doS F.width) p.rs) st := by
        rw [List.take_add_one, hst, List.foldl_append]
        rfl
      have gd : Good F.width ((b.body.take i).foldl (doS F.width) p.rs).vars ((b.body.take i).foldl (doS F.width) p.rs).mem := foldS_good w1 pok.good fun s hs => k1 s (List.mem_of_mem_take hs)
      generalize hrr : (b.body.take i).foldl (doS F.width) p.rs = r at *
      obtain ⟨dx2, ba2, en2, hx2, _, _, _⟩ := id P2.ob
      refine ⟨_, rfl, x, dx2, _, rfl, hx2, rfl, _, rfl, x, wd, me, wr, F, rows, ⟨r, p.label, p.labels ++ [p.label], none⟩, _, v, st, rfl, P2, w1, w16, at2.mono (K4.tups PA k4), hok, gd, by omega, by show r.writes.length ≤ 90000; omega, fun H3 P3 k3' => ?_⟩
      refine ⟨_, rfl, ?_, ?_, ?_⟩
      · rw [est]
        exact P3
      · exact fun b o e h1 h2 h3 h4 => k3' b o (k4 b o e h1 h2 h3 h4) h2 h3 h4
      · rw [est]
        cases st with
        | set y e => exact Nat.le_succ_of_le lw2
        | write e =>
          show (r.writes ++ [_]).length ≤ _
          rw [List.length_append, List.length_singleton]
          omega
        | store z e => exact Nat.le_succ_of_le lw2
    rintro σ H2 ⟨y4, rfl, P2, k4, lw2⟩
    have ebl : vs1.length = b.body.length := ps1.length.symm
    rw [ebl, List.take_length] at P2 lw2
    have gd := foldS_good w1 pok.good k1
    have hstep : stepP F p = endP F.width (b.body.foldl (doS F.width) p.rs) p b.fin := by
      unfold stepP doB
      rw [hblk]
    have hslab := stepP_labels F p
    generalize hrr : b.body.foldl (doS F.width) p.rs = r at *
    have t2 := K4.tups PA k4
    have en2 := en1.mono t2
    obtain ⟨dx2, ba2, ee2, hx2, hb2, nbw2, hen2⟩ := id P2.ob
    -- the end
    have fin : ∀ (p' : Ps) (H5 : Hp) (ee : Addr), stepP F p = p' → p'.rs = r → PlAt C H5 x wd me wr F rows ⟨r, p.label, p.labels ++ [p.label], none⟩ (6 + 40 * p.labels.length + b.body.length) → K4 x wd me wr H H5 → H5 x = some (.ins C dx2 (fl F.width ba2 p.label wd me wr ee2 (p.labels ++ [p.label]).length)) → BlocksAt H5 ba2 F rows →
        H5 ee = some (.tup (finV p'.fin)) → Q .non (upd H5 x (.ins C dx2 (fl F.width ba2 p'.label wd me wr ee p'.labels.length))) := by
      intro p' H5 ee hs hrs P5 k5 hx5 hb5 he5
      have P6 := P5.upx (p' := p') hx5 hb5 nbw2 (en' := ee) he5 hrs
      have hlp : p'.labels.length = p.labels.length + 1 := by rw [← hs, hslab, hll]
      refine q _ ?_ ?_ fun b o e h1 h2 h3 h4 => by rw [upd_ne h1]; exact k5 b o e h1 h2 h3 h4
      · rw [hs]
        obtain ⟨kvs, c1, c2, c3⟩ := P6.va
        exact ⟨P6.ob, ⟨kvs, c1, by omega, c3⟩, P6.mem, P6.wri, P6.ne⟩
      · rw [hs, hrs, hlp]
        omega
    cases hf : b.fin with
    | ret e =>
      rw [hf] at en2 k3 hstep
      obtain ⟨ae, u, rfl, hae, hexp⟩ := en2
      refine ⟨_, rfl, ae, _, _, _, rfl, rfl, .of hae, atI_nat (j := 0) rfl, rfl, _, rfl, ite2 (fun _ => ?_) (fun e => absurd dT e)⟩
      refine ⟨_, rfl, x, dx2, _, rfl, hx2, rfl, _, rfl, ae, _, _, _, rfl, rfl, .of hae, atI_nat (j := 1) rfl, x, wd, me, wr, F, rows, ⟨r, p.label, p.labels ++ [p.label], none⟩, _, u, e, rfl, P2, w1, w16, hexp, k3.1, k3.2, gd, ?_⟩
      refine ⟨(by show 2 ≤ sizeLine; decide), fun ee hee => ?_⟩
      have sN := same_new (o := .tup [.str "return", .int (ev F.width r.vars r.mem e : Int)]) hee
      obtain ⟨bk2, f1, f2⟩ := hb2
      refine ⟨_, rfl, x, C, dx2, _, rfl, sN _ _ hx2, T.cl, T.nEn, (by show 8 < 1000; decide), ?_⟩
      exact fin ⟨r, p.label, p.labels ++ [p.label], some (ev F.width r.vars r.mem e)⟩ _ ee hstep rfl (P2.same sN) (fun b o e h1 h2 h3 h4 => sN _ _ (k4 b o e h1 h2 h3 h4)) (sN _ _ hx2) ⟨bk2, sN _ _ f1, f2⟩ upd_same
    | go l =>
      rw [hf] at en2 k3 hstep
      obtain ⟨ae, rfl, hae⟩ := en2
      refine ⟨_, rfl, ae, _, _, _, rfl, rfl, .of hae, atI_nat (j := 0) rfl, rfl, _, rfl, ite2 (fun e => absurd e (dN (by decide +kernel))) (fun _ => ?_)⟩
      refine ⟨_, rfl, ae, _, _, _, rfl, rfl, .of hae, atI_nat (j := 0) rfl, rfl, _, rfl, ite2 (fun _ => ?_) (fun e => absurd dT e)⟩
      refine ⟨_, rfl, ae, _, _, _, rfl, rfl, .of hae, atI_nat (j := 1) rfl, _, rfl, x, C, dx2, _, rfl, hx2, T.cl, T.nLa, (by show 8 < 1000; decide), ?_⟩
      exact fin ⟨r, l, p.labels ++ [p.label], none⟩ H2 ee2 hstep rfl P2 k4 hx2 hb2 hen2
    | iff e l m =>
      rw [hf] at en2 k3 hstep
      obtain ⟨ae, u, rfl, hae, hexp⟩ := en2
      refine ⟨_, rfl, ae, _, _, _, rfl, rfl, .of hae, atI_nat (j := 0) rfl, rfl, _, rfl, ite2 (fun e => absurd e (dN (by decide +kernel))) (fun _ => ?_)⟩
      refine ⟨_, rfl, ae, _, _, _, rfl, rfl, .of hae, atI_nat (j := 0) rfl, rfl, _, rfl, ite2 (fun e => absurd e (dN (by decide +kernel))) (fun _ => ?_)⟩
      refine ⟨_, rfl, x, dx2, _, rfl, hx2, rfl, _, rfl, ae, _, _, _, rfl, rfl, .of hae, atI_nat (j := 1) rfl, x, wd, me, wr, F, rows, ⟨r, p.label, p.labels ++ [p.label], none⟩, _, u, e, rfl, P2, w1, w16, hexp, k3.1.1, k3.1.2, gd, rfl, _, rfl, ?_⟩
      by_cases hz : ev F.width r.vars r.mem e = 0
      · rw [hz]
        refine iteF ?_
        refine ⟨_, rfl, ae, _, _, _, rfl, rfl, .of hae, atI_nat (j := 3) rfl, _, rfl, x, C, dx2, _, rfl, hx2, T.cl, T.nLa, (by show 8 < 1000; decide), ?_⟩
        refine fin ⟨r, m, p.labels ++ [p.label], none⟩ H2 ee2 ?_ rfl P2 k4 hx2 hb2 hen2
        rw [hstep]
        show Ps.mk r (if ev F.width r.vars r.mem e ≠ 0 then l else m) _ _ = _
        rw [if_neg (fun z => z hz)]
      · have hd : decide (V.int (ev F.width r.vars r.mem e : Int) = V.int 0) = false := decide_eq_false fun z => hz (by have := V.int.inj z; omega)
        rw [hd]
        refine iteT ?_
        refine ⟨_, rfl, ae, _, _, _, rfl, rfl, .of hae, atI_nat (j := 2) rfl, _, rfl, x, C, dx2, _, rfl, hx2, T.cl, T.nLa, (by show 8 < 1000; decide), ?_⟩
        refine fin ⟨r, l, p.labels ++ [p.label], none⟩ H2 ee2 ?_ rfl P2 k4 hx2 hb2 hen2
        rw [hstep]
        show Ps.mk r (if ev F.width r.vars r.mem e ≠ 0 then l else m) _ _ = _
        rw [if_pos hz]
end
end K0

set_option Elab.async false
set_option linter.all false
set_option maxRecDepth 100000
set_option maxHeartbeats 1000000
namespace K0
open PySem L2
theorem lab_one {F : Fn} {i j : Nat} {b c : Bl} (nd : (F.blocks.map (·.label)).Nodup) (hi : F.blocks[i]? = some b) (hj : F.blocks[j]? = some c) (e : b.label = c.label) : i = j := by
  have q1 : (F.blocks.map (·.label))[i]? = some b.label := by rw [List.getElem?_map, hi]; rfl
  have q2 : (F.blocks.map (·.label))[j]? = some b.label := by rw [List.getElem?_map, hj, e]; rfl
  exact nd_ix nd q1 q2
/-- C.m(..), m a def of the class C -/
def tCFun (C : Addr) (sp : Sp) (E : XK) (ta : TE) (t : TA) : TE := fun σ H Q => ta σ H fun x H1 => x = .ref C ∧ t σ H1 fun vs H2 => sp (vs ++ []) H2 Q E
theorem getcfun_ok {X : Cx} {pins : List (Addr × Obj)} {σ : L2.St} {H : Hp} {s : Shared} {C f : Addr} {mc : Value} {m : Str} {A : Around} {E : Value → Shared → Prop} {pl : Sem Bool} {Q : Value × List Value → Shared → Prop} (I : Inv X pins σ H s) (r : ClX.CRead X.K C mc)
    (k : PySem.W.findCls X.K (.ref C) mc m = some (.val (.ref f))) (h : ∀ s', Inv X pins σ H s' → Q (.ref f, []) s') : wpAny (model X.prog X.w) A (getMethod (.ref C) m pl) Q E s :=
  PySem.W.method_cls I.kIn r.ga (PySem.W.cls_value I.kIn r.rd k rfl (h _ (I.tok _)))
theorem pe_cfun {X : Cx} {CX : CXT} {k : Nat} {C f : Addr} {fd : FuncData} {ps : List Str} {mc : Value} {sp : Sp} {E : XK} {o e : Expr} {es : List Expr} {m : Str} {pos apos : Pos} {ta : TE} {t : TA} {pl : Sem Bool} (he : PE X o ta) (r : ClX.CRead X.K C mc)
    (c : PySem.W.findCls X.K (.ref C) mc m = some (.val (.ref f))) (kf : PySem.W.keepIn X.K (.ref f) = true) (F : FnOk X.prog X.w X.K X.mg X.base CX k f fd ps sp) (hr : Room k X.A) (hb : Binds X.K fd ps []) (hx : Passes CX X E) (ha : PA X (e :: es) t)
    (hst : starEach (e :: es) X.env = (false, eval e X.env) :: starEach es X.env := by rfl) (hpl : (backTo pos (starEach es X.env)).any (·.1) = false := by rfl)
    (ht : eval (.Call (.Attribute o m apos) (e :: es) [] pos) X.env = (do
      let ov ← eval o X.env
      standAt apos.atName
      let (f, first) ← holding [ov] (getMethod ov m pl)
      callWith pos f first (backTo pos (starEach (e :: es) X.env)) (backToKw pos (keywordEach [] X.env))) := by rfl) :
    PE X (.Call (.Attribute o m apos) (e :: es) [] pos) (tCFun C sp E ta t) := by
  refine ⟨fun pins s σ H Q I h => ?_⟩
  refine PySem.W.methodCall_KW (pl := pl) (thn (he.run pins s σ H _ I h) fun u s1 ⟨x, H1, I1, rx, ex, q⟩ => ?_) ht
  subst ex
  obtain rfl : u = Value.ref C := rx
  refine getcfun_ok I1 r c fun s2 I2 => ?_
  refine PySem.W.callWith_K (first := []) (h₀ := X.base) I2.ok.mod.kin kf (thn (ha.run pos pins s2 σ H1 _ I2 q) fun us s3 ⟨vs, H2, I3, r3, q3⟩ => ⟨I3.kIn, ?_⟩) hst hpl
  exact run_fn (us := us) (vs := vs) F hr hb .nil hx I3 r3 q3
def spSt (C : Addr) : Sp := fun vs H Q _ => ∃ (x dx fb : Addr) (nb mo : Nat) (F : Fn) (rows : List V), vs = [.ref x, .ref fb] ∧ H x = some (.ins C dx []) ∧ H fb = some (.tup rows) ∧ Paired (BlAt H) F.blocks rows ∧ FnOk' nb mo F ∧ nb ≤ 40 ∧
  ∀ (ba me wr en : Addr) (b0 : Bl) (H' : Hp), F.blocks[0]? = some b0 → H' x = some (.ins C dx [("blocks", .ref ba), ("label", .int (b0.label : Int)), ("memory", .ref me), ("writes", .ref wr), ("end", .ref en), ("steps", .int 0)]) → BlocksAt H' ba F rows →
    H' me = some (.lst (List.replicate ((16 : Int)).toNat [V.int 0]).flatten) → H' wr = some (.lst []) → H' en = some (.tup [.str "none"]) → me ≠ wr → (∀ b o, H b = some o → b ≠ x → H' b = some o) → H me = none → H wr = none → Q .non H'
abbrev NSt : List Str := ["self", "blocks", "block"]
/-- the class above, its __init__ -/
structure GotSt (P : Program) (w : World) (K : PySem.W.Frag) (mg : Str → Option Value) (base : Heap) (C : Addr) : Prop where
  ex : ∃ (B f : Addr) (fd : FuncData), FnOk P w K mg base CX0 1 f fd ["self", "blocks"] (spSt C) ∧ ClX.CRead K B (.type "type") ∧ PySem.W.findCls K (.ref B) (.type "type") "__init__" = some (.val (.ref f)) ∧ PySem.W.keepIn K (.ref f) = true ∧ Binds K fd ["self", "blocks"] [] ∧ mg "Steps" = some (.ref B)
section
variable {P : Program} {w : World} {K : PySem.W.Frag} {mg : Str → Option Value} {base : Heap}
theorem scSt : FnScope NSt ["self", "blocks"] (defScope sStI) := ⟨rfl, rfl, rfl, by decide +kernel, rfl, by decide +kernel, by decide +kernel⟩
theorem ok_steps {f C pP pS : Addr} {fd : FuncData} (F : Fun K "__init__" "Steps.__init__" sStI f fd) (T : TxP K mg C pP pS) : FnOk P w K mg base CX0 1 f fd ["self", "blocks"] (spSt C) := by
  obtain ⟨tc, mCe⟩ := T.cells
  refine F.ok scSt (fun vs H Q E h => ?_) (fun cdv A outer s H vs Q E hr h => ?_)
  · obtain ⟨x, dx, fb, nb, mo, F, rows, rfl, _⟩ := h
    rfl
  · obtain ⟨x, dx, fb, nb, mo, F, rows, rfl, hx, hfb, pr, ok, nb40, q⟩ := h
    have nd := scSt.nd
    have nbx : fb ≠ x := ne_of hfb hx (by intro z; cases z)
    refine ⟨_, (pss_cons (ps_fld (pv 0) (pe_dc (own := [("block", 2)]) (g := gName 2) (tt := tYes) rfl nd (pi_tup (pv 1)) (blkOk_by (N := NSt) (sc := defScope sStI) (by decide +kernel)) (fun _ _ _ _ _ => (pg_name (i := 2) nd rfl (.inl rfl))) (fun _ _ _ _ _ => pts_nil) (fun _ _ _ _ _ => (pe_ix (r := rIxT K) ix_tup (pv 2) pe_int (fun _ _ => rfl))) (fun _ _ _ _ _ => pv 2)) rfl) (pss_cons (ps_fld (pv 0) (pe_ix (r := rIxT K) ix_tup (pe_ix (r := rIxT K) ix_tup (pv 1) pe_int (fun _ _ => rfl)) pe_int (fun _ _ => rfl)) rfl) (pss_cons (ps_fld (pv 0) (pe_op op_rep (pe_lst (pa_cons pe_int pa_nil)) (pe_glob (v := .int 16) (by rfl) mCe ⟨_, rfl⟩)) rfl) (pss_cons (ps_fld (pv 0) (pe_lst pa_nil) rfl) (pss_cons (ps_fld (pv 0) (pe_tup (pa_cons pe_str pa_nil)) rfl) (pss_one (ps_fld (pv 0) pe_int rfl))))))), ?_⟩
    -- blocks
    refine ⟨_, rfl, fb, rfl, ⟨_, .of hfb⟩, fun ba hba => dc_tup (xs := rows) (fun i H' => ∃ kvs : List (Key × V), H' ba = some (.dK kvs) ∧ kvs.length ≤ i ∧ (∀ (j : Nat) (b : Bl) (r : V), j < i → F.blocks[j]? = some b → rows[j]? = some r → valV kvs (Sum.inl (b.label : Int)) = some r) ∧ Same H H')
      ⟨[], upd_same, Nat.le_refl _, (fun j b r h => absurd h (Nat.not_lt_zero _)), same_new hba⟩ ?_ ?_ ?_⟩
    · rintro i H' _ ⟨kvs, _, _, _, sm⟩
      exact .of (sm _ _ hfb)
    · rintro i r H' hr ⟨kvs, hk, lk, hv, sm⟩
      obtain ⟨b, hb, ai, si, ui, vi, rfl, hai, _, _, _⟩ := prd_get' pr hr
      have nai : ai ≠ x := ne_of hai hx (by intro z; cases z)
      have il : i < F.blocks.length := (List.getElem?_eq_some_iff.mp hb).1
      have bn := ok.bn
      refine ⟨rfl, ?_⟩
      refine tYes_go ?_
      refine ⟨_, rfl, ai, _, _, _, rfl, rfl, .of (sm _ _ hai), atI_nat (j := 0) rfl, _, rfl, kvs, Sum.inl (b.label : Int), rfl, hk, small1000 (by omega), _, upd_same, Nat.le_trans (length_putK _ _ _) (by omega), ?_, sput sm hba⟩
      intro j c r2 hj hc hr2
      rw [valV_put]
      by_cases e : c.label = b.label
      · have eij := lab_one ok.nd hc hb e
        subst eij
        rw [hr] at hr2
        rw [if_pos (by rw [e])]
        exact hr2
      · have ne : ¬ (Sum.inl (c.label : Int) : Key) = Sum.inl (b.label : Int) := fun z => e (by have := Sum.inl.inj z; omega)
        rw [if_neg ne]
        refine hv j c r2 ?_ hc hr2
        have : j ≠ i := fun z => by
          subst z
          rw [hb] at hc
          cases hc
          exact e rfl
        omega
    rintro H2 ⟨kb, hkb, _, hvb, s2⟩
    have lrb : rows.length = F.blocks.length := pr.length.symm
    have hxba : x ≠ ba := ne_of_none hx hba
    refine ⟨_, rfl, x, C, dx, _, rfl, s2 _ _ hx, T.cl, T.nBl, (by show 0 < 1000; decide), ?_⟩
    have k2 : ∀ b o, H b = some o → b ≠ x → (upd H2 x (.ins C dx (putF "blocks" (.ref ba) []))) b = some o := fun b o e n => by
      rw [upd_ne n]
      exact s2 _ _ e
    have hkb2 : (upd H2 x (.ins C dx (putF "blocks" (.ref ba) []))) ba = some (.dK kb) := by
      rw [upd_ne hxba.symm]
      exact hkb
    generalize hH3 : upd H2 x (.ins C dx (putF "blocks" (.ref ba) [])) = H3 at k2 hkb2 ⊢
    have hx3 : H3 x = some (.ins C dx [("blocks", .ref ba)]) := by
      rw [← hH3]
      exact upd_same
    -- label
    obtain ⟨b0, hb0⟩ : ∃ b0, F.blocks[0]? = some b0 := ⟨F.blocks[0]'(by have := ok.b1; omega), List.getElem?_eq_getElem _⟩
    obtain ⟨r0, hr0, a0, sa0, u0, vs0, rfl, ha0, hs0, _, _⟩ := prd_get pr hb0
    have na0 : a0 ≠ x := ne_of ha0 hx (by intro z; cases z)
    refine ⟨_, rfl, fb, _, _, _, rfl, rfl, .of (k2 _ _ hfb nbx), atI_nat (j := 0) hr0, a0, _, _, _, rfl, rfl, .of (k2 _ _ ha0 na0), atI_nat (j := 0) rfl, _, rfl, x, C, dx, _, rfl, hx3, T.cl, T.nLa, (by show 1 < 1000; decide), ?_⟩
    have k4 : ∀ b o, H3 b = some o → b ≠ x → (upd H3 x (.ins C dx (putF "label" (.int (b0.label : Int)) [("blocks", .ref ba)]))) b = some o := fun b o e n => by
      rw [upd_ne n]
      exact e
    generalize hH4 : upd H3 x (.ins C dx (putF "label" (.int (b0.label : Int)) [("blocks", .ref ba)])) = H6 at k4 ⊢
    have hx6 : H6 x = some (.ins C dx [("blocks", .ref ba), ("label", .int (b0.label : Int))]) := by
      rw [← hH4]
      exact upd_same
    have hkb6 := k4 _ _ hkb2 hxba.symm
    -- memory
    refine ⟨(by show 1 ≤ sizeLine; decide), fun l0 hl0 => ⟨l0, 16, _, rfl, rfl, upd_same, by decide, by decide, (by show 16 ≤ sizeLine; decide), fun me hme => ?_⟩⟩
    have sM := (same_new (o := .lst [.int 0]) hl0).trans (same_new (o := .lst (List.replicate ((16 : Int)).toNat [V.int 0]).flatten) hme)
    have hxme : x ≠ me := ne_of_none ((same_new (o := .lst [.int 0]) hl0) _ _ hx6) hme
    refine ⟨_, rfl, x, C, dx, _, rfl, sM _ _ hx6, T.cl, T.nMe, (by show 2 < 1000; decide), ?_⟩
    have k7 : ∀ b o, (upd (upd H6 l0 (.lst [.int 0])) me (.lst (List.replicate ((16 : Int)).toNat [V.int 0]).flatten)) b = some o → b ≠ x → (upd (upd (upd H6 l0 (.lst [.int 0])) me (.lst (List.replicate ((16 : Int)).toNat [V.int 0]).flatten)) x (.ins C dx (putF "memory" (.ref me) [("blocks", .ref ba), ("label", .int (b0.label : Int))]))) b = some o := fun b o e n => by
      rw [upd_ne n]
      exact e
    have hme7 := k7 _ _ upd_same hxme.symm
    have hkb7 := k7 _ _ (sM _ _ hkb6) hxba.symm
    have kH7 : ∀ b o, H b = some o → b ≠ x → (upd (upd (upd H6 l0 (.lst [.int 0])) me (.lst (List.replicate ((16 : Int)).toNat [V.int 0]).flatten)) x (.ins C dx (putF "memory" (.ref me) [("blocks", .ref ba), ("label", .int (b0.label : Int))]))) b = some o := fun b o e n =>
      k7 _ _ (sM _ _ (k4 _ _ (k2 _ _ e n) n)) n
    have fH : ∀ {b : Addr}, (∀ o, H b = some o → b ≠ x → False) → b ≠ x → H b = none := fun {b} h n => by
      cases e : H b with
      | none => rfl
      | some o => exact (h o e n).elim
    have hme0 : H me = none := fH (fun o e n => by
      have := (same_new (o := .lst [.int 0]) hl0) _ _ (k4 _ _ (k2 _ _ e n) n)
      rw [hme] at this
      cases this) hxme.symm
    generalize hH7 : upd (upd (upd H6 l0 (.lst [.int 0])) me (.lst (List.replicate ((16 : Int)).toNat [V.int 0]).flatten)) x (.ins C dx (putF "memory" (.ref me) [("blocks", .ref ba), ("label", .int (b0.label : Int))])) = H7 at hme7 hkb7 kH7 ⊢
    have hx7 : H7 x = some (.ins C dx [("blocks", .ref ba), ("label", .int (b0.label : Int)), ("memory", .ref me)]) := by
      rw [← hH7]
      exact upd_same
    -- writes
    refine ⟨Nat.zero_le _, fun wr hwr => ?_⟩
    have sW := same_new (o := .lst []) hwr
    have hxwr : x ≠ wr := ne_of_none hx7 hwr
    have nmw : me ≠ wr := ne_of_none hme7 hwr
    refine ⟨_, rfl, x, C, dx, _, rfl, sW _ _ hx7, T.cl, T.nWr, (by show 3 < 1000; decide), ?_⟩
    have hwr0 : H wr = none := fH (fun o e n => by
      have := kH7 _ _ e n
      rw [hwr] at this
      cases this) hxwr.symm
    have k8 : ∀ b o, (upd H7 wr (.lst [])) b = some o → b ≠ x → (upd (upd H7 wr (.lst [])) x (.ins C dx (putF "writes" (.ref wr) [("blocks", .ref ba), ("label", .int (b0.label : Int)), ("memory", .ref me)]))) b = some o := fun b o e n => by
      rw [upd_ne n]
      exact e
    have hwr8 := k8 _ _ upd_same hxwr.symm
    have hme8 := k8 _ _ (sW _ _ hme7) hxme.symm
    have hkb8 := k8 _ _ (sW _ _ hkb7) hxba.symm
    have kH8 : ∀ b o, H b = some o → b ≠ x → (upd (upd H7 wr (.lst [])) x (.ins C dx (putF "writes" (.ref wr) [("blocks", .ref ba), ("label", .int (b0.label : Int)), ("memory", .ref me)]))) b = some o := fun b o e n => k8 _ _ (sW _ _ (kH7 _ _ e n)) n
    generalize hH8 : upd (upd H7 wr (.lst [])) x (.ins C dx (putF "writes" (.ref wr) [("blocks", .ref ba), ("label", .int (b0.label : Int)), ("memory", .ref me)])) = H8 at hwr8 hme8 hkb8 kH8 ⊢
    have hx8 : H8 x = some (.ins C dx [("blocks", .ref ba), ("label", .int (b0.label : Int)), ("memory", .ref me), ("writes", .ref wr)]) := by
      rw [← hH8]
      exact upd_same
    -- end
    refine ⟨(by show 1 ≤ sizeLine; decide), fun en hen => ?_⟩
    have sE := same_new (o := .tup [.str "none"]) hen
    have hxen : x ≠ en := ne_of_none hx8 hen
    refine ⟨_, rfl, x, C, dx, _, rfl, sE _ _ hx8, T.cl, T.nEn, (by show 4 < 1000; decide), ?_⟩
    -- steps
    refine ⟨_, rfl, x, C, dx, _, rfl, upd_same, T.cl, T.nSt, (by show 5 < 1000; decide), ?_⟩
    have k9 : ∀ (o1 o2 : HO) b o, (upd H8 en (.tup [.str "none"])) b = some o → b ≠ x → (upd (upd (upd H8 en (.tup [.str "none"])) x o1) x o2) b = some o := fun o1 o2 b o e n => by
      rw [upd_ne n, upd_ne n]
      exact e
    exact q ba me wr en b0 _ hb0 upd_same ⟨kb, k9 _ _ _ _ (sE _ _ hkb8) hxba.symm, fun j b r hj hr => hvb j b r (by have := (List.getElem?_eq_some_iff.mp hr).1; omega) hj hr⟩ (k9 _ _ _ _ (sE _ _ hme8) hxme.symm) (k9 _ _ _ _ (sE _ _ hwr8) hxwr.symm) (k9 _ _ _ _ upd_same hxen.symm) nmw
      (fun b o e n => k9 _ _ _ _ (sE _ _ (kH8 _ _ e n)) n) hme0 hwr0
theorem scIn : FnScope NIn ["self", "function", "inputs"] (defScope sInit) := ⟨rfl, rfl, rfl, by decide +kernel, rfl, by decide +kernel, by decide +kernel⟩
theorem ok_init {f C pP pS : Addr} {fd : FuncData} (F : Fun K "__init__" "Play.__init__" sInit f fd) (T : TxP K mg C pP pS) (men : mg "enumerate" = none) (GS : GotSt P w K mg base C) : FnOk P w K mg base CX0 2 f fd ["self", "function", "inputs"] (spInit C) := by
  obtain ⟨B, fS, fdS, GS, rS, cS, kS, bS, mS⟩ := GS.ex
  refine F.ok scIn (fun vs H Q E h => ?_) (fun cdv A outer s H vs Q E hr h => ?_)
  · obtain ⟨x, dx, ia, nb, mo, F, v, ws, rfl, _⟩ := h
    rfl
  · obtain ⟨x, dx, ia, nb, mo, F, v, ws, rfl, hx, hF, ok, nb40, hia, lw, q⟩ := h
    obtain ⟨fa, fb, rows, rfl, hfa, hfb, pr⟩ := hF
    have nd := scIn.nd
    have hrS : Room 1 _ := hr
    have nfx : fa ≠ x := ne_of hfa hx (by intro z; cases z)
    have nix : ia ≠ x := ne_of hia hx (by intro z; cases z)
    refine ⟨_, (pss_cons (ps_expr (pe_cfun (pe_glob (v := .ref B) (by rfl) mS rfl) rS cS kS GS hrS bS pass0 (pa_cons (pv 0) (pa_cons (pe_ix (r := rIxT K) ix_tup (pv 1) pe_int (fun _ _ => rfl)) pa_nil)))) (pss_cons (ps_fld (pv 0) (pe_ix (r := rIxT K) ix_tup (pv 1) pe_int (fun _ _ => rfl)) rfl) (pss_one (ps_fld (pv 0) (pe_dc (own := [("v", 3), ("word", 4)]) (g := gTup K 2 (gCons (gName 3) (gCons (gName 4) gNil))) (tt := tYes) rfl nd (pi_enumT (by rfl) men (pa_cons (pv 2) pa_nil)) (blkOk_by (N := NIn) (sc := defScope sInit) (by decide +kernel)) (fun _ _ _ _ _ => pg_tup rfl (pgs_cons (pg_name (i := 3) nd rfl (.inl rfl)) (pgs_cons (pg_name (i := 4) nd rfl (.inl rfl)) pgs_nil))) (fun _ _ _ _ _ => pts_nil) (fun _ _ _ _ _ => pv 3) (fun _ _ _ _ _ => pv 4)) rfl)))), ?_⟩
    refine ⟨rfl, _, rfl, _, rfl, fa, _, _, _, rfl, rfl, .of hfa, atI_nat (j := 2) rfl, ?_⟩
    refine ⟨x, dx, fb, nb, mo, F, rows, rfl, hx, hfb, pr, ok, nb40, fun ba me wr en b0 H1 hb0 hx1 hbk hme hwr hen nmw k1 me0 wr0 => ?_⟩
    have el0 : (p0 F ws).label = b0.label := by
      show (F.blocks.headD noBl).label = b0.label
      rw [List.headD_eq_head?_getD, List.head?_eq_getElem?, hb0]
      rfl
    obtain ⟨kb, hkb, hvb⟩ := hbk
    -- width
    refine ⟨_, rfl, fa, _, _, _, rfl, rfl, .of (k1 _ _ hfa nfx), atI_nat (j := 0) rfl, _, rfl, x, C, dx, _, rfl, hx1, T.cl, T.nWi, (by show 6 < 1000; decide), ?_⟩
    have k2 : ∀ b o, H1 b = some o → b ≠ x → (upd H1 x (.ins C dx (putF "width" (.int (F.width : Int)) [("blocks", .ref ba), ("label", .int (b0.label : Int)), ("memory", .ref me), ("writes", .ref wr), ("end", .ref en), ("steps", .int 0)]))) b = some o := fun b o e n => by
      rw [upd_ne n]
      exact e
    generalize hH4 : upd H1 x (.ins C dx (putF "width" (.int (F.width : Int)) [("blocks", .ref ba), ("label", .int (b0.label : Int)), ("memory", .ref me), ("writes", .ref wr), ("end", .ref en), ("steps", .int 0)])) = H4 at k2 ⊢
    have hx4 : H4 x = some (.ins C dx [("blocks", .ref ba), ("label", .int (b0.label : Int)), ("memory", .ref me), ("writes", .ref wr), ("end", .ref en), ("steps", .int 0), ("width", .int (F.width : Int))]) := by
      rw [← hH4]
      exact upd_same
    have hia4 := k2 _ _ (k1 _ _ hia nix) nix
    -- words
    refine ⟨_, rfl, ia, _, rfl, .of hia4, fun wd hwd => dc_enumT (xs := iv ws) (fun i H' => VarsAt H' wd (fun k => (ws.take i).getD k 0) i ∧ Same H4 H') ⟨⟨[], upd_same, Nat.le_refl _, fun k => rfl⟩, same_new hwd⟩ ?_ ?_ ?_⟩
    · rintro i H' _ ⟨_, sm⟩
      exact .of (sm _ _ hia4)
    · rintro i z T' H' hz ⟨⟨kvs, hk, lk, hv⟩, sm⟩ hT'
      have hi : i < ws.length := by
        have := (List.getElem?_eq_some_iff.mp hz).1
        rw [List.length_map] at this
        exact this
      obtain rfl : z = .int (ws[i] : Int) := by
        rw [iv_get hi] at hz
        exact (Option.some.inj hz).symm
      have nwt : wd ≠ T' := ne_of_none hk hT'
      refine ⟨T', _, rfl, .of upd_same, rfl, _, _, rfl, _, _, rfl, rfl, rfl, ?_⟩
      refine tYes_go ?_
      refine ⟨_, rfl, _, rfl, kvs, Sum.inl (i : Int), rfl, by rw [upd_ne nwt]; exact hk, small1000 (by omega), ?_, ?_⟩
      · exact (VarsAt.put (f := fun k => (ws.take i).getD k 0) lk hv i ws[i]).cong fun k => take_getD hi k
      · exact sput (sm.trans (same_new hT')) hwd
    rintro H5 ⟨va5, s5⟩
    rw [List.length_map, List.take_length] at va5
    have hxwd : x ≠ wd := ne_of_none hx4 hwd
    refine ⟨_, rfl, x, C, dx, _, rfl, s5 _ _ hx4, T.cl, T.nWo, (by show 7 < 1000; decide), ?_⟩
    have k6 : ∀ (o1 : HO) b o, H5 b = some o → b ≠ x → (upd H5 x o1) b = some o := fun o1 b o e n => by
      rw [upd_ne n]
      exact e
    obtain ⟨kw, hkw, lkw, hvw⟩ := va5
    have nx : ∀ {b : Addr} {o : HO}, H1 b = some o → (∀ d l, o ≠ .ins C d l) → b ≠ x := fun e n => ne_of e hx1 (n _ _)
    have up : ∀ (o1 : HO) b o, H1 b = some o → (∀ d l, o ≠ .ins C d l) → (upd H5 x o1) b = some o := fun o1 b o e n => k6 _ _ _ (s5 _ _ (k2 _ _ e (nx e n))) (nx e n)
    have nbw : ba ≠ wd := ne_of_none (k2 _ _ hkb (nx hkb fun _ _ z => by cases z)) hwd
    have hwd0 : H wd = none := by
      cases e : H wd with
      | none => rfl
      | some o =>
        have := k2 _ _ (k1 _ _ e hxwd.symm) hxwd.symm
        rw [hwd] at this
        cases this
    refine q wd me wr rows _ ⟨⟨dx, ba, en, ?_, ⟨kb, up _ _ _ hkb (fun _ _ z => by cases z), hvb⟩, nbw, up _ _ _ hen (fun _ _ z => by cases z)⟩, ⟨kw, k6 _ _ _ hkw hxwd.symm, by omega, hvw⟩, up _ _ _ hme (fun _ _ z => by cases z), up _ _ _ hwr (fun _ _ z => by cases z), nmw⟩ pr
      (fun b o e n => k6 _ _ _ (s5 _ _ (k2 _ _ (k1 _ _ e n) n)) n) hwd0 me0 wr0
    rw [el0]
    exact upd_same
end
end K0

set_option Elab.async false
set_option linter.all false
set_option maxRecDepth 100000
set_option maxHeartbeats 1000000
namespace K0
open PySem L2
/-- a run of the program as it stands between two blocks -/
structure RI (C x wd me wr : Addr) (nb mo : Nat) (F : Fn) (rows : List V) (ws : List Nat) (fuel : Nat) (H H' : Hp) (p : Ps) : Prop where
  pl : PlAt C H' x wd me wr F rows p (6 + 40 * p.labels.length)
  pok : PsOk nb mo F p
  le : p.labels.length ≤ fuel
  lw : p.rs.writes.length ≤ 40 * p.labels.length
  eq : runP F fuel (p0 F ws) = runP F (fuel - p.labels.length) p
  sm : Same H H'
  nx : H x = none
  nw : H wd = none
  nm : H me = none
  nr : H wr = none
  pr : Paired (BlAt H') F.blocks rows
theorem RI.next {C x wd me wr : Addr} {nb mo : Nat} {F : Fn} {rows : List V} {ws : List Nat} {fuel : Nat} {H H1 H2 : Hp} {p : Ps} (R : RI C x wd me wr nb mo F rows ws fuel H H1 p) (ok : FnOk' nb mo F) (hf : p.fin = none) (hl : p.labels.length < fuel)
    (A : PlAt C H2 x wd me wr F rows (stepP F p) (6 + 40 * (stepP F p).labels.length)) (lw : (stepP F p).rs.writes.length ≤ 40 * (stepP F p).labels.length) (k : K4 x wd me wr H1 H2) : RI C x wd me wr nb mo F rows ws fuel H H2 (stepP F p) ∧ (stepP F p).labels.length = p.labels.length + 1 := by
  have hll : (stepP F p).labels.length = p.labels.length + 1 := by
    rw [stepP_labels, List.length_append]
    rfl
  refine ⟨⟨A, stepP_ok ok R.pok, by omega, lw, ?_, fun b o e => k b o (R.sm b o e) (ne_of_none e R.nx) (ne_of_none e R.nw) (ne_of_none e R.nm) (ne_of_none e R.nr), R.nx, R.nw, R.nm, R.nr, Bls.mono (K4.tups R.pl k) R.pr⟩, hll⟩
  rw [R.eq, hll]
  have e : fuel - p.labels.length = (fuel - (p.labels.length + 1)) + 1 := by omega
  rw [e, runP_step hf]
theorem RI.ends {C x wd me wr : Addr} {nb mo : Nat} {F : Fn} {rows : List V} {ws : List Nat} {fuel : Nat} {H H1 : Hp} {p : Ps} (R : RI C x wd me wr nb mo F rows ws fuel H H1 p) (h : ¬ (p.fin.isNone && decide (p.labels.length < fuel)) = true) : runP F fuel (p0 F ws) = p := by
  rw [R.eq]
  cases hf : p.fin with
  | some z => exact runP_fin hf _
  | none =>
    have hl : ¬ p.labels.length < fuel := fun z => h (by rw [hf, decide_eq_true z]; rfl)
    have e : fuel - p.labels.length = 0 := by omega
    rw [e]
    rfl
theorem RI.go {p : Ps} {fuel : Nat} (h : (p.fin.isNone && decide (p.labels.length < fuel)) = true) : p.fin = none ∧ p.labels.length < fuel := by
  rw [Bool.and_eq_true, decide_eq_true_eq, Option.isNone_iff_eq_none] at h
  exact h
theorem made_none {H : Hp} {x dx C b : Addr} (nx : H x = none) (h : (upd (upd H dx (.own x)) x (.ins C dx [])) b = none) : H b = none := by
  have n1 : b ≠ x := fun e => by
    rw [e, upd_same] at h
    cases h
  rw [upd_ne n1] at h
  have n2 : b ≠ dx := fun e => by
    rw [e, upd_same] at h
    cases h
  rw [upd_ne n2] at h
  exact h
/-- the run and the labels, as asked -/
def spRun : Sp := fun vs H Q _ => ∃ (nb mo : Nat) (F : Fn) (v : V) (ia : Addr) (ws : List Nat) (fuel : Nat), vs = [v, .ref ia, .int (fuel : Int)] ∧ FnAt H F v ∧ FnOk' nb mo F ∧ nb ≤ 40 ∧ mo ≤ 40 ∧ H ia = some (.tup (iv ws)) ∧
  ws.length ≤ 6 ∧ (∀ z ∈ ws, z < 2 ^ F.width) ∧ fuel ≤ 60 ∧
  ∀ (a wa ea : Addr) (H' : Hp), Same H H' → H' a = some (.tup [.ref wa, .ref ea, .int ((runP F fuel (p0 F ws)).labels.length : Int)]) → H' wa = some (.lst (iv (runP F fuel (p0 F ws)).rs.writes)) →
    H' ea = some (.tup (finV (runP F fuel (p0 F ws)).fin)) → Q (.ref a) H'
def spTr : SpG := fun vs H Q _ => ∃ (nb mo : Nat) (F : Fn) (v : V) (ia : Addr) (ws : List Nat) (fuel : Nat), vs = [v, .ref ia, .int (fuel : Int)] ∧ FnAt H F v ∧ FnOk' nb mo F ∧ nb ≤ 40 ∧ mo ≤ 40 ∧ H ia = some (.tup (iv ws)) ∧
  ws.length ≤ 6 ∧ (∀ z ∈ ws, z < 2 ^ F.width) ∧ fuel ≤ 60 ∧ ∀ H', Same H H' → Q (iv (runP F fuel (p0 F ws)).labels) H'
def spFin (C : Addr) : Sp := fun vs H Q _ => ∃ (nb mo : Nat) (F : Fn) (ws : List Nat) (fuel : Nat) (x wd me wr : Addr) (rows : List V) (H0 : Hp), vs = [.ref x, .int (fuel : Int)] ∧ RI C x wd me wr nb mo F rows ws fuel H0 H (p0 F ws) ∧ FnOk' nb mo F ∧ mo ≤ 40 ∧ fuel ≤ 60 ∧
  ∀ (a wa ea : Addr) (H' : Hp), Same H0 H' → H' a = some (.tup [.ref wa, .ref ea, .int ((runP F fuel (p0 F ws)).labels.length : Int)]) → H' wa = some (.lst (iv (runP F fuel (p0 F ws)).rs.writes)) →
    H' ea = some (.tup (finV (runP F fuel (p0 F ws)).fin)) → Q (.ref a) H'
/-- the class as it is made -/
structure GotP (P : Program) (w : World) (K : PySem.W.Frag) (mg : Str → Option Value) (base : Heap) (C : Addr) : Prop where
  ex : ∃ (f : Addr) (fd : FuncData), FnOk P w K mg base CX0 2 f fd ["self", "function", "inputs"] (spInit C) ∧ L2.Mk K C f ∧ Binds K fd ["self", "function", "inputs"] [] ∧ mg "Play" = some (.ref C)
section
variable {P : Program} {w : World} {K : PySem.W.Frag} {mg : Str → Option Value} {base : Heap}
theorem scRunP : FnScope ["function", "inputs", "fuel"] ["function", "inputs", "fuel"] (defScope sRunP) := ⟨rfl, rfl, rfl, by decide +kernel, rfl, by decide +kernel, by decide +kernel⟩
theorem scTrace : GScope ["function", "inputs", "fuel", "play"] ["function", "inputs", "fuel"] (defScope sTrace) := ⟨rfl, rfl, rfl, by decide +kernel, rfl, by decide +kernel, by decide +kernel⟩
theorem scFin : FnScope ["play", "fuel"] ["play", "fuel"] (defScope sFin) := ⟨rfl, rfl, rfl, by decide +kernel, rfl, by decide +kernel, by decide +kernel⟩
theorem ok_finish {f C pP pS : Addr} {fd : FuncData} (F : Fun K "finish" "finish" sFin f fd) (T : TxP K mg C pP pS) (GM : GotM P w K mg base C 1 "may_enter" ["self", "fuel"] (spMay C)) (GE : GotM P w K mg base C 9 "enter" ["self"] (spEnter C)) :
    FnOk P w K mg base CX0 10 f fd ["play", "fuel"] (spFin C) := by
  obtain ⟨fM, fdM, GM, MM, bM⟩ := GM.ex
  obtain ⟨fE, fdE, GE, ME, bE⟩ := GE.ex
  refine F.ok scFin (fun vs H Q E h => ?_) (fun cdv A outer s H vs Q E hr h => ?_)
  · obtain ⟨nb, mo, F, ws, fuel, x, wd, me, wr, rows, H0, rfl, _⟩ := h
    rfl
  · obtain ⟨nb, mo, F, ws, fuel, x, wd, me, wr, rows, H0, rfl, R0, ok, mo40, f60, q⟩ := h
    have nd := scFin.nd
    have hr9 : Room 9 _ := hr
    have hr1 : Room 1 _ := hr.mono (by decide)
    refine ⟨_, (pss_cons (ps_while PassesOwn.never (pt_val (pe_meth (pv 0) T.cl MM GM hr1 bM .nil pass0 (pa_cons (pv 1) pa_nil))) (pss_one (ps_expr (pe_meth0 (pv 0) T.cl ME GE hr9 bE .nil pass0)))) (pss_one (ps_ret (pe_tup (pa_cons (pe_fld (pv 0) rfl) (pa_cons (pe_fld (pv 0) rfl) (pa_cons (pe_fld (pv 0) rfl) pa_nil))))))), ?_⟩
    refine ⟨fun m σ H' => ∃ p, σ = [some (.ref x), some (.int (fuel : Int))] ∧ RI C x wd me wr nb mo F rows ws fuel H0 H' p ∧ m + p.labels.length = fuel, ⟨fuel, _, rfl, R0, rfl⟩, ?_⟩
    rintro m σ H2 ⟨p, rfl, R, hm⟩
    obtain ⟨dx2, ba2, en2, hx2, _, _, hen2⟩ := id R.pl.ob
    refine ⟨_, rfl, x, dx2, _, rfl, hx2, rfl, _, rfl, x, wd, me, wr, F, rows, p, _, fuel, rfl, R.pl, ?_⟩
    refine ⟨_, rfl, ite2 (fun hgo => ?_) (fun hno => ?_)⟩
    · obtain ⟨hf, hl⟩ := RI.go hgo
      refine ⟨fun σ' H' => ∃ p', σ' = [some (.ref x), some (.int (fuel : Int))] ∧ RI C x wd me wr nb mo F rows ws fuel H0 H' p' ∧ p'.labels.length = p.labels.length + 1, ?_, ?_⟩
      · rintro σ' H' ⟨p', e1, e2, e3⟩
        exact ⟨m - 1, by omega, p', e1, e2, by omega⟩
      · refine ⟨_, rfl, x, dx2, _, rfl, hx2, rfl, x, wd, me, wr, nb, mo, F, rows, p, rfl, R.pl, ok, mo40, R.pok, hf, R.pr, by omega, R.lw, fun H3 A3 lw3 k3 => ?_⟩
        obtain ⟨R3, hl3⟩ := R.next ok hf hl A3 lw3 k3
        exact ⟨_, rfl, R3, hl3⟩
    · have eq := R.ends hno
      refine ⟨_, rfl, x, C, dx2, _, _, rfl, hx2, T.cl, T.nWr, rfl, _, rfl, x, C, dx2, _, _, rfl, hx2, T.cl, T.nEn, rfl, _, rfl, x, C, dx2, _, _, rfl, hx2, T.cl, T.nSt, rfl, (by show 3 ≤ sizeLine; decide), fun a ha => ?_⟩
      have s3 := same_new (o := .tup [.ref wr, .ref en2, .int (p.labels.length : Int)]) ha
      rw [eq] at q
      exact q a wr en2 _ (R.sm.trans s3) upd_same (s3 _ _ R.pl.wri) (s3 _ _ hen2)
theorem ok_run {f C : Addr} {fd : FuncData} (F : Fun K "run" "run" sRunP f fd) (GP : GotP P w K mg base C) (GF : Got P w K mg base 10 "finish" ["play", "fuel"] (spFin C)) :
    FnOk P w K mg base CX0 11 f fd ["function", "inputs", "fuel"] spRun := by
  obtain ⟨fI, fdI, GI, MkC, bI, mC⟩ := GP.ex
  obtain ⟨fF, fdF, GF, mF, kF, bF⟩ := GF.ex
  refine F.ok scRunP (fun vs H Q E h => ?_) (fun cdv A outer s H vs Q E hr h => ?_)
  · obtain ⟨nb, mo, F, v, ia, ws, fuel, rfl, _⟩ := h
    rfl
  · obtain ⟨nb, mo, F, v, ia, ws, fuel, rfl, hF, ok, nb40, mo40, hia, lw, okw, f60, q⟩ := h
    have nd := scRunP.nd
    have hr10 : Room 10 _ := hr
    have hr2 : Room (2 + 1) _ := hr.mono (by decide)
    refine ⟨_, (pss_one (ps_ret (pe_call GF hr10 (by rfl) mF kF bF .nil pass0 (pa_cons (pe_make MkC GI hr2 (by rfl) mC bI .nil pass0 (pa_cons (pv 0) (pa_cons (pv 1) pa_nil))) (pa_cons (pv 2) pa_nil))))), ?_⟩
    refine ⟨_, rfl, _, rfl, fun x dx hx hdx ndx => ?_⟩
    have sm0 : Same H (upd (upd H dx (.own x)) x (.ins C dx [])) := Same.made hx hdx fun b o e n => e
    refine ⟨x, dx, ia, nb, mo, F, v, ws, rfl, upd_same, hF.mono (Tups.of sm0), ok, nb40, sm0 _ _ hia, lw, fun wd me wr rows H1 PA pr k1 nw nm nr => ⟨rfl, ?_⟩⟩
    have sm1 : Same H H1 := Same.made hx hdx k1
    have R0 : RI C x wd me wr nb mo F rows ws fuel H H1 (p0 F ws) := ⟨PA, p0_ok ok okw, Nat.zero_le _, Nat.zero_le _, rfl, sm1, hx, made_none hx nw, made_none hx nm, made_none hx nr, Bls.mono (fun b xs e => k1 b _ e fun z => by
      rw [z, upd_same] at e
      cases e) pr⟩
    exact ⟨_, rfl, nb, mo, F, ws, fuel, x, wd, me, wr, rows, H, rfl, R0, ok, mo40, f60, q⟩
theorem ok_trace {f C pP pS : Addr} {fd : FuncData} (F : Fun K "trace" "trace" sTrace f fd) (T : TxP K mg C pP pS) (GP : GotP P w K mg base C) (GM : GotM P w K mg base C 1 "may_enter" ["self", "fuel"] (spMay C)) (GE : GotM P w K mg base C 9 "enter" ["self"] (spEnter C)) :
    GFn P w K mg base 10 f fd ["function", "inputs", "fuel"] spTr := by
  obtain ⟨fI, fdI, GI, MkC, bI, mC⟩ := GP.ex
  obtain ⟨fM, fdM, GM, MM, bM⟩ := GM.ex
  obtain ⟨fE, fdE, GE, ME, bE⟩ := GE.ex
  obtain ⟨oc, od, kV, doc, pm, an, cdv, ct, osl, rfl, lk, hcd⟩ := F.ex
  refine gfn_of lk hcd scTrace (fun vs H Q E h => ?_) (fun A outer s H vs Q E pn hr h => ?_)
  · obtain ⟨nb, mo, F, v, ia, ws, fuel, rfl, _⟩ := h
    rfl
  · obtain ⟨nb, mo, F, v, ia, ws, fuel, rfl, hF, ok, nb40, mo40, hia, lw, okw, f60, q⟩ := h
    have nd := scTrace.nd
    have hr9 : Room 9 _ := hr
    have hr2 : Room (2 + 1) _ := hr.mono (by decide)
    have hr1 : Room 1 _ := hr.mono (by decide)
    refine ⟨_, (gss_cons (gs_ps (ps_set (i := 3) nd rfl (.inl rfl) (pe_make MkC GI hr2 (by rfl) mC bI .nil pass0 (pa_cons (pv 0) (pa_cons (pv 1) pa_nil))))) (gss_cons (gs_while owns_gcx (pt_val (pe_meth (pv 3) T.cl MM GM hr1 bM .nil pass0 (pa_cons (pv 2) pa_nil))) (gss_cons (gs_yield (pe_fld (pv 3) rfl)) (gss_pss (pss_one (ps_expr (pe_meth0 (pv 3) T.cl ME GE hr9 bE .nil pass0)))))) gss_nil)), ?_⟩
    refine ⟨_, rfl, _, rfl, fun x dx hx hdx ndx => ?_⟩
    have sm0 : Same H (upd (upd H dx (.own x)) x (.ins C dx [])) := Same.made hx hdx fun b o e n => e
    refine ⟨x, dx, ia, nb, mo, F, v, ws, rfl, upd_same, hF.mono (Tups.of sm0), ok, nb40, sm0 _ _ hia, lw, fun wd me wr rows H1 PA pr k1 nw nm nr => ⟨rfl, ?_⟩⟩
    have sm1 : Same H H1 := Same.made hx hdx k1
    obtain ⟨fa, fb, rows0, rfl, hfa, hfb, pr0⟩ := id hF
    have R0 : RI C x wd me wr nb mo F rows ws fuel H H1 (p0 F ws) := ⟨PA, p0_ok ok okw, Nat.zero_le _, Nat.zero_le _, rfl, sm1, hx, made_none hx nw, made_none hx nm, made_none hx nr, Bls.mono (fun b xs e => k1 b _ e fun z => by
      rw [z, upd_same] at e
      cases e) pr⟩
    refine ⟨fun m ys σ H' => ∃ p, σ = [some (.ref fa), some (.ref ia), some (.int (fuel : Int)), some (.ref x)] ∧ ys = iv p.labels ∧ RI C x wd me wr nb mo F rows ws fuel H H' p ∧ m + p.labels.length = fuel, ⟨fuel, _, rfl, rfl, R0, rfl⟩, ?_⟩
    rintro m ys σ H2 ⟨p, rfl, rfl, R, hm⟩
    obtain ⟨dx2, ba2, en2, hx2, _, _, hen2⟩ := id R.pl.ob
    refine ⟨_, rfl, x, dx2, _, rfl, hx2, rfl, _, rfl, x, wd, me, wr, F, rows, p, _, fuel, rfl, R.pl, ?_⟩
    refine ⟨_, rfl, ite2 (fun hgo => ?_) (fun hno => ?_)⟩
    · obtain ⟨hf, hl⟩ := RI.go hgo
      refine ⟨fun ys' σ' H' => ∃ p', σ' = [some (.ref fa), some (.ref ia), some (.int (fuel : Int)), some (.ref x)] ∧ ys' = iv p'.labels ∧ RI C x wd me wr nb mo F rows ws fuel H H' p' ∧ p'.labels.length = p.labels.length + 1, ?_, ?_⟩
      · rintro ys' σ' H' ⟨p', e1, e0, e2, e3⟩
        exact ⟨m - 1, by omega, p', e1, e0, e2, by omega⟩
      · refine ⟨?_, _, rfl, x, C, dx2, _, _, rfl, hx2, T.cl, T.nLa, rfl, ?_⟩
        · rw [List.length_map]
          exact big (by have := R.le; omega)
        · refine ⟨_, rfl, x, dx2, _, rfl, hx2, rfl, x, wd, me, wr, nb, mo, F, rows, p, rfl, R.pl, ok, mo40, R.pok, hf, R.pr, by omega, R.lw, fun H3 A3 lw3 k3 => ?_⟩
          obtain ⟨R3, hl3⟩ := R.next ok hf hl A3 lw3 k3
          refine ⟨_, rfl, ?_, R3, hl3⟩
          rw [stepP_labels]
          unfold iv
          rw [List.map_append]
          rfl
    · have eq := R.ends hno
      rw [eq] at q
      exact q _ R.sm
end
end K0

set_option Elab.async false
set_option linter.all false
set_option maxRecDepth 100000
set_option maxHeartbeats 1000000
namespace K0
open PySem L2 PySem.Spec PyProof.Rows GenW
theorem kbn_fuel {K : PySem.W.Frag} {x qual : Str} {st : Stmt} {f : Addr} {fd : FuncData} (F : Fun K x qual st f fd) (ha : ∀ (kV doc pm : Value) (an : Option Addr) (cdv ct : Value) (a b c : Value), bindArgs (PySem.W.fnOf x qual (defArgs st) (defBody st) (defScope st) .none kV doc pm an cdv ct) ⟨[a, b], [("fuel", c)]⟩ = pure ((["function", "inputs", "fuel"] : List Str).zip [a, b, c])) :
    KBn K fd ["function", "inputs", "fuel"] 2 ["fuel"] (fun us ws => us ++ ws) (fun vs zs => vs ++ zs) := by
  obtain ⟨oc, od, kV, doc, pm, an, cdv, ct, osl, rfl, lk, hcd⟩ := F.ex
  refine ⟨fun s us ws X l1 l2 => ?_, fun r1 r2 => r1.append r2⟩
  match us, l1, ws, l2 with
  | [a, b], _, [c], _ => exact .of_eq (ha kV doc pm an cdv ct a b c)
section
variable {X : Cx} {k n : Nat} {f : Addr} {fd : FuncData} {ps ks : List Str} {sp : SpG} {x : Str} {p pos' : Pos} {e : Expr} {es : List Expr} {kws : List Keyword} {t tk : TA} {g : List Value → List Value → List Value} {gV : List V → List V → List V}
def tCallGN (n m : Nat) (sp : SpG) (gV : List V → List V → List V) (E : XK) (t tk : TA) : TGen := fun σ H cont => t σ H fun vs H1 => tk σ H1 fun zs H2 => vs.length = n ∧ zs.length = m ∧ sp (gV vs zs) H2 cont E
theorem run_gfnN {pins : List (Addr × Obj)} {σ : L2.St} {H : Hp} {s : Shared} {us ws : List Value} {vs zs : List V} {cont : List V → Hp → Prop} {E : XK} {E1 : Value → Shared → Prop} (F : GFn X.prog X.w X.K X.mg X.base k f fd ps sp) (hr : Room k X.A) (hb : KBn X.K fd ps n ks g gV)
    (I : Inv X pins σ H s) (r : Vals vs us) (rz : Vals zs ws) (l1 : vs.length = n) (l2 : zs.length = ks.length) (h : sp (gV vs zs) H cont E) :
    wpAny (model X.prog X.w) X.A (call (.ref f) us (ks.zip ws)) (fun u s' => ∃ H1 sc ex, Inv X pins σ H1 sc ∧ ExOk X pins ex ∧ GMade X.prog X.w k X.stack H1 sc ex cont E u s') E1 s := by
  have r2 := hb.rel r rz
  refine wpAny_call (codeAny_mono (F.run X.A X.stack s H ⟨us, ks.zip ws⟩ (g us ws) (gV vs zs) cont E hr I.env0 (hb.to s us ws I.kIn (r.length.symm.trans l1) (rz.length.symm.trans l2)) r2 h) fun r s' hq => ?_)
  cases r with
  | error e => exact False.elim hq
  | ok fl =>
    cases fl with
    | ret u => exact ⟨H, s, [], I, .nil, hq⟩
    | next => exact False.elim hq
    | brk => exact False.elim hq
    | cont => exact False.elim hq
/-- f(e, .., k = v, ..) of a generator def -/
theorem pgen_callN {E : XK} (F : GFn X.prog X.w X.K X.mg X.base k f fd ps sp) (hr : Room k X.A) (hg : Gl X x) (hm : X.mg x = some (.ref f)) (hk : PySem.W.keepIn X.K (.ref f) = true) (hb : KBn X.K fd ps n ks g gV)
    (ha : PA X (e :: es) t) (hkw : PK X kws tk) (hall : (backToKw pos' (keywordEach kws X.env)).all (·.1.isSome) = true := by rfl) (hks : (backToKw pos' (keywordEach kws X.env)).filterMap (·.1) = ks := by rfl)
    (hdb : (x == ("__debug__" : Str)) = false := by decide) (he : starEach (e :: es) X.env = (false, eval e X.env) :: starEach es X.env := by rfl)
    (hpl : ((backTo pos' (starEach (e :: es) X.env)).any (·.1) || (backToKw pos' (keywordEach kws X.env)).any (·.1.isNone)) = false := by rfl) :
    PGen X k (.Call (.Name x p) (e :: es) kws pos') (tCallGN n ks.length sp gV E t tk) E := by
  refine ⟨fun pins s σ H cont I h => ?_⟩
  refine wpAny_Call_Name_kw (ld_glob I hg hm ?_ hdb)
  refine PySem.W.callWith_KW (h₀ := X.base) I.ok.mod.kin hk hall (thn (ha.run pos' pins s σ H _ I h) fun us s1 ⟨vs, H1, I1, r, q⟩ => ?_) hpl he
  refine thn (hkw.run pos' pins s1 σ H1 _ I1 q) fun ws s2 ⟨zs, H2, I2, rz, l1, l2, q2⟩ => ⟨I2.kIn, ?_⟩
  rw [hks]
  exact run_gfnN F hr hb I2 r rz l1 l2 q2
end
theorem kbn_run {K : PySem.W.Frag} {f : Addr} {fd : FuncData} (F : Fun K "run" "run" sRunP f fd) : KBn K fd ["function", "inputs", "fuel"] 2 ["fuel"] (fun us ws => us ++ ws) (fun vs zs => vs ++ zs) := kbn_fuel F fun _ _ _ _ _ _ _ _ _ => rfl
theorem kbn_trace {K : PySem.W.Frag} {f : Addr} {fd : FuncData} (F : Fun K "trace" "trace" sTrace f fd) : KBn K fd ["function", "inputs", "fuel"] 2 ["fuel"] (fun us ws => us ++ ws) (fun vs zs => vs ++ zs) := kbn_fuel F fun _ _ _ _ _ _ _ _ _ => rfl
/-- no exception leaves it -/
theorem pass_gen {X : Cx} : Passes (CX X.prog X.w) X (fun _ _ _ => False) := fun _ _ _ _ _ _ _ h => by
  obtain ⟨a, B, H', cls, d, _, _, _, _, _, _, _, hE⟩ := h
  exact hE.elim
theorem nostop0 {K : PySem.W.Frag} : NoStop K (fun _ _ _ => False) := fun _ _ _ h => h.elim
end K0

set_option Elab.async false
set_option linter.all false
set_option maxRecDepth 100000
set_option maxHeartbeats 1000000
namespace K0
open PySem L2 PySem.Spec PyProof.Rows
section
variable {X : Cx}
/-- repr of a tuple or list of plain data, where no repr is under way -/
theorem call_repr_data (hg : X.A.guards = some []) (hu : X.A.units + 40 < cLine) : CallR X (.builtin "repr") (fun xs H Q => ∃ (a : Addr) (d : PyData), xs = [.ref a] ∧ Dp X.K H (.ref a) d ∧ d.showable = true ∧ d.hasDict = false ∧ d.depth ≤ 30 ∧ d.shown.length ≤ sizeLine ∧ Q (.str d.shown) H) := by
  intro pins s σ H xs us Q I r h
  obtain ⟨a, d, rfl, hd, h1, h2, h3, h4, q⟩ := h
  cases r with
  | cons r1 r0 =>
    cases r0
    obtain ⟨as, hr⟩ := Dp.reads I d _ _ hd r1
    cases r1
    exact repr_of_reads' (h₀ := s.heap) hr h1 (PyData.noDict_hsm h2) hg (by omega) (fun _ _ e => e) (fun h' u tk hk => ⟨.str d.shown, H, I.kept hk, ⟨u, rfl⟩, q⟩) h4
theorem guards_deeper {A : Around} {env : Env} (h : A.guards = some []) : (A.deeper env).guards = some [] := h
theorem guards_caller : callerA.guards = some [] := rfl
end
end K0

set_option Elab.async false
set_option linter.all false
set_option maxRecDepth 100000
set_option maxHeartbeats 1000000
namespace K0
open PySem L2
/-- data that is shown briefly: weight at most W, depth at most D -/
structure Nz (d : PyData) (W D : Nat) : Prop where
  sh : d.showable = true
  nd : d.hasDict = false
  dp : d.depth ≤ D
  wt : d.weight ≤ W
  ls : d.leavesShort 20 = true
structure Nzs (ds : List PyData) (W D : Nat) : Prop where
  sh : PyData.showableAll ds = true
  nd : PyData.hasDictAll ds = false
  dp : PyData.depthAll ds ≤ D
  wt : PyData.weightAll ds ≤ W
  ls : PyData.leavesShortAll 20 ds = true
theorem Nz.mono {d : PyData} {W W' D D' : Nat} (h : Nz d W D) (a : W ≤ W') (b : D ≤ D') : Nz d W' D' := ⟨h.sh, h.nd, Nat.le_trans h.dp b, Nat.le_trans h.wt a, h.ls⟩
theorem Nzs.mono {d : List PyData} {W W' D D' : Nat} (h : Nzs d W D) (a : W ≤ W') (b : D ≤ D') : Nzs d W' D' := ⟨h.sh, h.nd, Nat.le_trans h.dp b, Nat.le_trans h.wt a, h.ls⟩
theorem Nzs.nil {D : Nat} : Nzs [] 0 D := ⟨rfl, rfl, Nat.zero_le _, Nat.le_refl _, rfl⟩
theorem Nzs.cons {d : PyData} {ds : List PyData} {W V D : Nat} (h : Nz d W D) (t : Nzs ds V D) : Nzs (d :: ds) (W + 1 + V) D := by
  refine ⟨?_, ?_, ?_, ?_, ?_⟩
  · simp only [PyData.showableAll, h.sh, t.sh, Bool.and_self]
  · simp only [PyData.hasDictAll, h.nd, t.nd, Bool.or_self]
  · simp only [PyData.depthAll]
    exact Nat.max_le.mpr ⟨h.dp, t.dp⟩
  · simp only [PyData.weightAll]
    have := h.wt
    have := t.wt
    omega
  · simp only [PyData.leavesShortAll, h.ls, t.ls, Bool.and_self]
theorem Nz.tup {ds : List PyData} {W D : Nat} (h : Nzs ds W D) : Nz (.tuple ds) W (D + 1) := by
  refine ⟨?_, ?_, ?_, ?_, ?_⟩
  · simp only [PyData.showable, h.sh]
  · simp only [PyData.hasDict, h.nd]
  · simp only [PyData.depth]
    exact Nat.succ_le_succ h.dp
  · simp only [PyData.weight]
    exact h.wt
  · simp only [PyData.leavesShort, h.ls]
theorem Nzs.map {α : Type} {f : α → PyData} {W D : Nat} : ∀ {l : List α}, (∀ x ∈ l, Nz (f x) W D) → Nzs (l.map f) ((W + 1) * l.length) D
  | [], _ => Nzs.nil.mono (Nat.zero_le _) (Nat.le_refl _)
  | x :: r, h => by
    refine (Nzs.cons (h x List.mem_cons_self) (Nzs.map fun y hy => h y (List.mem_cons_of_mem _ hy))).mono ?_ (Nat.le_refl _)
    rw [List.length_cons, Nat.mul_add]
    omega
theorem nz_int {n : Nat} (h : n < 65536) (D : Nat) : Nz (.int (n : Int)) 17 D := by
  have hl : (n : Int).natAbs.log2 < 17 := by
    rw [Int.natAbs_natCast]
    by_cases h0 : n = 0
    · subst h0
      decide
    · exact (Nat.log2_lt h0).mpr (Nat.lt_of_lt_of_le h (by decide))
  refine ⟨?_, rfl, Nat.zero_le _, ?_, ?_⟩
  · simp only [PyData.showable, decide_eq_true_eq]
    omega
  · simp only [PyData.weight]
    split <;> omega
  · simp only [PyData.leavesShort, decide_eq_true_eq, PyData.shown]
    have e := int_text_length_le (a := (n : Int)) (k := 17) (by decide) hl
    refine decide_eq_true (?_ : (Str.ofString (toString (n : Int))).length ≤ 20)
    rw [ofString_length]
    omega
theorem nz_ops : ∀ op ∈ ((["int", "var", "load", "not", "neg", "set", "write", "store", "go", "if", "return"] : List Str) ++ tenS), (PyData.str op).showable = true ∧ (PyData.str op).hasDict = false ∧ (PyData.str op).depth ≤ 0 ∧ (PyData.str op).weight ≤ 6 ∧ (PyData.str op).leavesShort 20 = true := by decide +kernel
theorem nz_op {op : Str} (h : op ∈ ((["int", "var", "load", "not", "neg", "set", "write", "store", "go", "if", "return"] : List Str) ++ tenS)) (D : Nat) : Nz (.str op) 6 D := by
  obtain ⟨a, b, c, d, e⟩ := nz_ops op h
  exact ⟨a, b, Nat.le_trans c (Nat.zero_le _), d, e⟩
def exD : Ex → PyData
  | .int n => .tuple [.str "int", .int (n : Int)]
  | .var x => .tuple [.str "var", .int (x : Int)]
  | .load e => .tuple [.str "load", exD e]
  | .one op e => .tuple [.str op, exD e]
  | .two op e f => .tuple [.str op, exD e, exD f]
def smD : Sm → PyData
  | .set x e => .tuple [.str "set", .int (x : Int), exD e]
  | .write e => .tuple [.str "write", exD e]
  | .store z e => .tuple [.str "store", exD z, exD e]
def enD : En → PyData
  | .go l => .tuple [.str "go", .int (l : Int)]
  | .iff e l m => .tuple [.str "if", exD e, .int (l : Int), .int (m : Int)]
  | .ret e => .tuple [.str "return", exD e]
def blD (b : Bl) : PyData := .tuple [.int (b.label : Int), .tuple (b.body.map smD), enD b.fin]
def fnD (F : Fn) : PyData := .tuple [.int (F.width : Int), .int (F.params : Int), .tuple (F.blocks.map blD)]
theorem nz_ex {W : Nat} (w16 : W ≤ 16) : ∀ (n : Nat) (e : Ex), EOk W e → e.deep ≤ n + 1 → ∃ w, Nz (exD e) w (n + 1) ∧ w + 10 ≤ 40 * 2 ^ n := by
  have hp : ∀ n : Nat, 1 ≤ 2 ^ n := fun n => Nat.pow_pos (by decide)
  have h65 : 2 ^ W ≤ 65536 := Nat.pow_le_pow_right (by decide) w16
  intro n
  induction n with
  | zero =>
    intro e ok dp
    cases e with
    | int k => exact ⟨_, .tup (.cons (nz_op (by decide +kernel) 0) (.cons (nz_int (Nat.lt_of_lt_of_le ok h65) 0) .nil)), by omega⟩
    | var k =>
      have hk : k < 100 := ok
      exact ⟨_, .tup (.cons (nz_op (by decide +kernel) 0) (.cons (nz_int (by omega) 0) .nil)), by omega⟩
    | load e =>
      have : e.deep + 1 ≤ 1 := dp
      cases e <;> simp [Ex.deep] at this
    | one op e =>
      have : e.deep + 1 ≤ 1 := dp
      cases e <;> simp [Ex.deep] at this
    | two op e f =>
      have : max e.deep f.deep + 1 ≤ 1 := dp
      cases e <;> simp [Ex.deep] at this <;> omega
  | succ n ih =>
    intro e ok dp
    have h2 : 2 ^ (n + 1) = 2 * 2 ^ n := by rw [Nat.pow_succ, Nat.mul_comm]
    have h1 := hp n
    cases e with
    | int k => exact ⟨_, .tup (.cons (nz_op (by decide +kernel) _) (.cons (nz_int (Nat.lt_of_lt_of_le ok h65) _) .nil)), by omega⟩
    | var k =>
      have hk : k < 100 := ok
      exact ⟨_, .tup (.cons (nz_op (by decide +kernel) _) (.cons (nz_int (by omega) _) .nil)), by omega⟩
    | load e =>
      have d1 : e.deep + 1 ≤ n + 1 + 1 := dp
      obtain ⟨w, hw, l⟩ := ih e ok (by omega)
      exact ⟨_, .tup (.cons (nz_op (by decide +kernel) _) (.cons hw .nil)), by omega⟩
    | one op e =>
      have d1 : e.deep + 1 ≤ n + 1 + 1 := dp
      obtain ⟨w, hw, l⟩ := ih e ok.2 (by omega)
      refine ⟨_, .tup (.cons (nz_op ?_ _) (.cons hw .nil)), by omega⟩
      rcases ok.1 with rfl | rfl <;> decide +kernel
    | two op e f =>
      have d1 : max e.deep f.deep + 1 ≤ n + 1 + 1 := dp
      obtain ⟨w, hw, l⟩ := ih e ok.2.1 (by omega)
      obtain ⟨w2, hw2, l2⟩ := ih f ok.2.2 (by omega)
      exact ⟨_, .tup (.cons (nz_op (List.mem_append_right _ ok.1) _) (.cons hw (.cons hw2 .nil))), by omega⟩
theorem nz_e3 {W : Nat} (w16 : W ≤ 16) {e : Ex} (h : E3 W e) : Nz (exD e) 152 3 := by
  obtain ⟨w, hw, l⟩ := nz_ex w16 2 e h.1 h.2
  exact hw.mono (by omega) (Nat.le_refl _)
theorem nz_sm {W : Nat} (w16 : W ≤ 16) {s : Sm} (h : SmOk W s) : Nz (smD s) 400 4 := by
  cases s with
  | set x e =>
    have hx : x < 100 := h.1
    exact (Nz.tup (.cons (nz_op (by decide +kernel) 3) (.cons (nz_int (by omega) 3) (.cons (nz_e3 w16 h.2) .nil)))).mono (by omega) (Nat.le_refl _)
  | write e => exact (Nz.tup (.cons (nz_op (by decide +kernel) 3) (.cons (nz_e3 w16 h) .nil))).mono (by omega) (Nat.le_refl _)
  | store z e => exact (Nz.tup (.cons (nz_op (by decide +kernel) 3) (.cons (nz_e3 w16 h.1) (.cons (nz_e3 w16 h.2) .nil)))).mono (by omega) (Nat.le_refl _)
theorem nz_en {W : Nat} {ls : List Nat} (w16 : W ≤ 16) (hl : ∀ l ∈ ls, l < 1000) {s : En} (h : EnOk W ls s) : Nz (enD s) 400 4 := by
  cases s with
  | go l =>
    have := hl l h
    exact (Nz.tup (.cons (nz_op (by decide +kernel) 3) (.cons (nz_int (by omega) 3) .nil))).mono (by omega) (Nat.le_refl _)
  | iff e l m =>
    have := hl l h.2.1
    have := hl m h.2.2
    exact (Nz.tup (.cons (nz_op (by decide +kernel) 3) (.cons (nz_e3 w16 h.1) (.cons (nz_int (by omega) 3) (.cons (nz_int (by omega) 3) .nil))))).mono (by omega) (Nat.le_refl _)
  | ret e => exact (Nz.tup (.cons (nz_op (by decide +kernel) 3) (.cons (nz_e3 w16 h) .nil))).mono (by omega) (Nat.le_refl _)
theorem nz_fn {nb mo : Nat} {F : Fn} (ok : FnOk' nb mo F) (h1 : nb ≤ 12) (h2 : mo ≤ 12) : Nz (fnD F) 90000 8 := by
  have w16 := ok.w16
  have pr := ok.pr
  have bn := ok.bn
  refine (Nz.tup (.cons (nz_int (by omega) 7) (.cons (nz_int (by omega) 7) (.cons (.tup (Nzs.map (W := 6000) (D := 6) fun b hb => ?_)) .nil)))).mono ?_ (Nat.le_refl _)
  · obtain ⟨k1, k2, k3⟩ := ok.ok b hb
    have hl := ok.lt b hb
    have hls : ∀ l ∈ (F.blocks.map (·.label)).tail, l < 1000 := fun l h => by
      obtain ⟨c, hc, rfl⟩ := List.mem_map.mp (tail_mem h)
      exact ok.lt c hc
    refine (Nz.tup (.cons (nz_int (by omega) _) (.cons (.tup (Nzs.map fun s hs => nz_sm w16 (k1 s hs))) (.cons ((nz_en w16 hls k3).mono (Nat.le_refl _) (by decide)) .nil)))).mono ?_ (Nat.le_refl _)
    have : (400 + 1) * b.body.length ≤ (400 + 1) * 12 := Nat.mul_le_mul_left _ (by omega)
    omega
  · have : (6000 + 1) * F.blocks.length ≤ (6000 + 1) * 12 := Nat.mul_le_mul_left _ (by omega)
    omega
theorem nz_shown {d : PyData} {D : Nat} (h : Nz d 90000 D) : d.shown.length ≤ sizeLine := by
  have e := PyData.shown_le 20 (by decide) d h.ls
  have := h.wt
  have : (20 + 2) * d.weight ≤ (20 + 2) * 90000 := Nat.mul_le_mul_left _ h.wt
  have : sizeLine = 16777216 := rfl
  omega
section
variable {K : PySem.W.Frag} {H : Hp}
theorem dp_ex : ∀ {e : Ex} {v : V}, ExAt H e v → Dp K H v (exD e)
  | .int n, v, ⟨a, e1, e2⟩ => by
    subst e1
    exact .tup (.inl (.of e2)) (.cons (.str _) (.cons (.int _) .nil))
  | .var n, v, ⟨a, e1, e2⟩ => by
    subst e1
    exact .tup (.inl (.of e2)) (.cons (.str _) (.cons (.int _) .nil))
  | .load e, v, ⟨a, u, e1, e2, h⟩ => by
    subst e1
    exact .tup (.inl (.of e2)) (.cons (.str _) (.cons (dp_ex h) .nil))
  | .one op e, v, ⟨a, u, e1, e2, h⟩ => by
    subst e1
    exact .tup (.inl (.of e2)) (.cons (.str _) (.cons (dp_ex h) .nil))
  | .two op e f, v, ⟨a, u, y, e1, e2, h, h2⟩ => by
    subst e1
    exact .tup (.inl (.of e2)) (.cons (.str _) (.cons (dp_ex h) (.cons (dp_ex h2) .nil)))
theorem dp_sm {s : Sm} {v : V} (h : SmAt H s v) : Dp K H v (smD s) := by
  cases s with
  | set x e =>
    obtain ⟨a, u, rfl, e2, h⟩ := h
    exact .tup (.inl (.of e2)) (.cons (.str _) (.cons (.int _) (.cons (dp_ex h) .nil)))
  | write e =>
    obtain ⟨a, u, rfl, e2, h⟩ := h
    exact .tup (.inl (.of e2)) (.cons (.str _) (.cons (dp_ex h) .nil))
  | store z e =>
    obtain ⟨a, u, y, rfl, e2, h, h2⟩ := h
    exact .tup (.inl (.of e2)) (.cons (.str _) (.cons (dp_ex h) (.cons (dp_ex h2) .nil)))
theorem dp_en {s : En} {v : V} (h : EnAt H s v) : Dp K H v (enD s) := by
  cases s with
  | go l =>
    obtain ⟨a, rfl, e2⟩ := h
    exact .tup (.inl (.of e2)) (.cons (.str _) (.cons (.int _) .nil))
  | iff e l m =>
    obtain ⟨a, u, rfl, e2, h⟩ := h
    exact .tup (.inl (.of e2)) (.cons (.str _) (.cons (dp_ex h) (.cons (.int _) (.cons (.int _) .nil))))
  | ret e =>
    obtain ⟨a, u, rfl, e2, h⟩ := h
    exact .tup (.inl (.of e2)) (.cons (.str _) (.cons (dp_ex h) .nil))
theorem dp_all {α : Type} {f : α → PyData} {G : α → V → Prop} (h : ∀ x v, G x v → Dp K H v (f x)) : ∀ {xs : List α} {vs : List V}, Paired G xs vs → DpAll K H vs (xs.map f)
  | _, _, .nil => .nil
  | _, _, .cons a t => .cons (h _ _ a) (dp_all h t)
theorem dp_bl {b : Bl} {v : V} (h : BlAt H b v) : Dp K H v (blD b) := by
  obtain ⟨a, s, u, vs, rfl, e2, e3, hs, he⟩ := h
  exact .tup (.inl (.of e2)) (.cons (.int _) (.cons (.tup (.inl (.of e3)) (dp_all (f := smD) (G := SmAt H) (fun _ _ => dp_sm) hs)) (.cons (dp_en he) .nil)))
theorem dp_fn {F : Fn} {v : V} (h : FnAt H F v) : ∃ a, v = .ref a ∧ Dp K H (.ref a) (fnD F) := by
  obtain ⟨a, b, rows, rfl, e2, e3, hs⟩ := h
  exact ⟨a, rfl, .tup (.inl (.of e2)) (.cons (.int _) (.cons (.int _) (.cons (.tup (.inl (.of e3)) (dp_all (f := blD) (G := BlAt H) (fun _ _ => dp_bl) hs)) .nil)))⟩
end
end K0

set_option Elab.async false
set_option linter.all false
set_option maxRecDepth 100000
set_option maxHeartbeats 1000000
namespace K0
open PySem L2 PySem.Spec PyProof.Rows
/-- a def's promise where no repr is under way -/
structure FnC (P : Program) (w : World) (K : PySem.W.Frag) (mg : Str → Option Value) (base : Heap) (k : Nat) (f : Addr) (fd : FuncData) (ps : List Str) (sp : Sp) : Prop where
  len : ∀ vs H Q E, sp vs H Q E → vs.length = ps.length
  run : ∀ (A : Around) (outer : List Env) (s : Shared) (H : Hp) (args : Args) (us : List Value) (vs : List V) (Q : VK) (E : XK), A.guards = some [] → Room k A → Env0 P w K mg base A outer s H → BindsTo s fd args (ps.zip us) → Vals vs us → sp vs H Q E →
    codeAny (model P w) A (.call (.ref f) args) (CR CX0 outer P w H s Q E) s
section
variable {P : Program} {w : World} {K : PySem.W.Frag} {mg : Str → Option Value} {base : Heap}
theorem okC {x qual : Str} {st : Stmt} {f : Addr} {fd : FuncData} {N ps : List Str} {k : Nat} {sp : Sp} (F : Fun K x qual st f fd) (S : FnScope N ps (defScope st)) (len : ∀ vs H Q E, sp vs H Q E → vs.length = ps.length)
    (hbody : ∀ (cdv : Value) (A : Around) (outer : List Env) (s : Shared) (H : Hp) (vs : List V) (Q : VK) (E : XK), A.guards = some [] → Room k (A.deeper (envOfC qual (defScope st) s.heap.objs.size f cdv)) → sp vs H Q E →
      ∃ t, PSs (cxOf CX0 P w K mg base N qual (defScope st) f cdv A outer s H E).nox (defBody st) t ∧ t { nx := fun _ H' => Q .non H', rt := Q } (start N vs) H) : FnC P w K mg base (k + 1) f fd ps sp := by
  obtain ⟨oc, od, kV, doc, pm, an, cdv, ct, osl, rfl, lk, hcd⟩ := F.ex
  constructor
  · exact len
  intro A outer s H args us vs Q E hg hr e0 hb r hsp
  have keep0 := fun b o e => (e0.bs b o e).1
  have names : ∀ y ∈ ps.zip us, (defScope st).names.lookup y.1 = some .local ∨ ((defScope st).names.lookup y.1 = some .cell ∧ ((cellsFrom (s.heap.objs.size + 1) (defScope st).names []).lookup y.1).isSome = true) := by
    rintro ⟨n, v⟩ hy
    cases S.par n (List.of_mem_zip hy).1 with
    | inl q => exact Or.inl q
    | inr q => exact Or.inr ⟨q, PySem.W.cellsFrom_some _ _ _ (Or.inl q)⟩
  refine codeAny_call_function hr.depth ((e0.mod.kin.keeps keep0) _ _ lk) rfl S.co S.gen rfl (PySem.W.codeRec_of (e0.mod.kin.keeps keep0) hcd) (hb _ _ _ _ ?_)
  refine wpAny_newFunctionEnv_cells S.kind names fun env he s1 x1 => ?_
  subst he
  refine ⟨(e0.mod.nolimit.keeps keep0).keeps x1.toInCall.keep, codeAny_func ?_⟩
  obtain ⟨t, ht, hq⟩ := hbody cdv A outer s H vs Q E hg (hr.deeper _) hsp
  have I := inv_start (CX := CX0) (E := E) S hr.hd e0 (len _ _ _ _ hsp) r x1
  refine wpAny_mono (ht.nox.run [] s1 (start N vs) H _ I hq) (fun fl s' hs => ?_) fun e s' hs => hs
  cases fl with
  | ret u =>
    obtain ⟨v, σ', H', J, rv, q⟩ := hs
    exact ⟨v, H', J.os, J.bare, J.base, J.hok, rv, q⟩
  | next =>
    obtain ⟨σ', H', J, q⟩ := hs
    exact ⟨V.non, H', J.os, J.bare, J.base, J.hok, rfl, q⟩
  | brk => exact (hs.choose_spec.choose_spec.2 : False).elim
  | cont => exact (hs.choose_spec.choose_spec.2 : False).elim
end
/-- the law's def, called by the machine itself -/
theorem callC {P : Program} {w : World} {K : PySem.W.Frag} {mg mb : Str → Option Value} {k : Nat} {fa a : Addr} {fd : FuncData} {x : Str} {sp : Sp} {s₁ : Shared} {vs : List Value} {ns : List Int}
    (KX : K.In s₁.heap) (hns : s₁.heap.Ns mainGlobals mg) (hb : s₁.heap.Ns builtinsNs mb) (hbb : ∀ x : Str, x ≠ "__name__" → mb x = bootBuiltins x) (hlim : s₁.heap.NoLimit) (hg : s₁.gens = #[])
    (ha : s₁.heap.get? a = some { cls := .type "list", data := .seq vs.toArray }) (hi : IntsAre vs ns) (hl : ns.length ≤ sizeLine) (hr : Room k callerA)
    (F : ∀ base : Heap, K.In base → base.Ns mainGlobals mg → FnC P w K mg base k fa fd [x] sp) (hbind : ∀ (s : Shared) (u : Value), BindsTo s fd ⟨[u], []⟩ [(x, u)])
    (hsp : ∀ H : Hp, SqL K H a (ns.map V.int) → sp [.ref a] H (fun v _ => v = .bl true) fun _ _ _ => False) :
    codeAny (model P w) callerA (.call (.ref fa) ⟨[.ref a], []⟩) (fun r s' => r = .ok (.ret (.bool true)) ∧ OldK s₁.heap s'.heap ∧ s'.os = s₁.os ∧ AllBare s'.gens) s₁ := by
  have rv := vals_ints hi
  have nofs : ∀ b : Addr, b ∉ frs ([] : List Env) := fun b z => absurd (show b ∈ ([] : List Addr) from z) (by simp)
  -- o: what is tracked of the script
  have go : ∀ H : Hp, (∀ b, H b = none ∨ (b = a ∧ ∃ o xs, H b = some (.frz o (.lst xs)))) → (K.lookup a = none ∨ H a = none) → SqL K H a (ns.map V.int) → HOk P w H s₁.heap →
      codeAny (model P w) callerA (.call (.ref fa) ⟨[.ref a], []⟩) (fun r s' => r = .ok (.ret (.bool true)) ∧ OldK s₁.heap s'.heap ∧ s'.os = s₁.os ∧ AllBare s'.gens) s₁ := by
    intro H hO hK hS hok
    have free : ∀ {b : Addr} {o : Obj} {m : Nat} {es : Array DictEntry}, s₁.heap.get? b = some o → o.data = .dict es m → H b = none := by
      intro b o m es e d
      rcases hO b with z | ⟨rfl, _⟩
      · exact z
      · rw [ha] at e
        cases e
        cases d
    have ns' : ∀ {b : Addr} {m : Str → Option Value}, s₁.heap.Ns b m → (hidT s₁.heap H).Ns b m := by
      rintro b m ⟨o, es, ep, e, d, r⟩
      exact ⟨o, es, ep, hidT_get e (free e d), d, r⟩
    have kin : K.In (hidT s₁.heap H) := fun b o e => hidT_get (KX b o e) (by
      rcases hO b with z | ⟨rfl, _⟩
      · exact z
      · rcases hK with z | z
        · rw [z] at e
          cases e
        · exact z)
    have md : Mod K mg (hidT s₁.heap H) := ⟨kin, ns' hns, ⟨mb, ns' hb, hbb⟩, by
      obtain ⟨mc, h1, h2⟩ := hlim
      exact ⟨mc, ns' h1, h2⟩⟩
    have e0 : Env0 P w K mg (hidT s₁.heap H) callerA [] s₁ H := ⟨rfl, md, fun b o e => of_hidT e, Nat.le_of_eq (hidT_size _ _), trivial, fun b hb => (nofs b hb).elim, hok, .of_eq hg⟩
    have run := (F _ kin (ns' hns)).run callerA [] s₁ H ⟨[.ref a], []⟩ [.ref a] [.ref a] _ _ rfl hr e0 (hbind s₁ (.ref a)) (.cons rfl .nil) (hsp H hS)
    refine codeAny_mono run fun r s' h => ?_
    match r, h with
    | .error e, h => exact (h : False).elim
    | .ok .next, h => exact (h : False).elim
    | .ok .brk, h => exact (h : False).elim
    | .ok .cont, h => exact (h : False).elim
    | .ok (.ret u), ⟨v, H', os, bare, un, hok', r', q⟩ =>
      obtain rfl : v = .bl true := q
      obtain rfl : u = Value.bool true := r'
      refine ⟨rfl, OldK.of_keep fun b o e => ?_, os, bare⟩
      rcases hO b with z | ⟨_, ob, xs, z⟩
      · exact un.keep b o e z (nofs b) (by simp)
      · have z2 := un.frzs b ob _ z
        obtain ⟨e1, _⟩ := hok b _ z
        obtain ⟨e2, _⟩ := hok' b _ z2
        rw [e] at e1
        cases e1
        exact e2
  cases hk : K.lookup a with
  | some o =>
    have e := KX a o hk
    rw [ha] at e
    cases e
    exact go (fun _ => none) (fun _ => .inl rfl) (.inr rfl) (.inr ⟨_, vs.toArray, _, hk, rfl, rfl, rfl, by rw [List.size_toArray, hi.length]; exact hl, by simpa using rv⟩) fun b u z => by
      have z' : (none : Option HO) = some u := z
      cases z'
  | none =>
    have hit : (fun b : Addr => if b = a then some (HO.frz { cls := .type "list", data := .seq vs.toArray } (.lst (ns.map V.int))) else none) a = some (HO.frz { cls := .type "list", data := .seq vs.toArray } (.lst (ns.map V.int))) := if_pos rfl
    refine go (fun b => if b = a then some (.frz { cls := .type "list", data := .seq vs.toArray } (.lst (ns.map V.int))) else none) (fun b => ?_) (.inl hk) (.inl (.inr ⟨_, hit⟩)) fun b u z => ?_
    · by_cases hb : b = a
      · exact .inr ⟨hb, _, _, if_pos hb⟩
      · exact .inl (if_neg hb)
    · by_cases hb : b = a
      · subst hb
        have z' : some (HO.frz { cls := .type "list", data := .seq vs.toArray } (.lst (ns.map V.int))) = some u := hit.symm.trans z
        cases z'
        exact ⟨ha, by rw [List.length_map]; exact hl, vs, _, rv, ha⟩
      · exact absurd ((if_neg hb).symm.trans z) (by intro z; cases z)
/-- the walk of a law whose def asks that no repr is under way -/
theorem walkC {l : PySem.W.OpenLaw} {n k : Nat} {q : Program} {loose : List Str} {XP : (Str → Option Value) → Heap → Prop} {YP : World → Heap → Prop} {d : DefRec} {K : Params → PySem.W.Frag} {sp : World → Sp} {x : Str}
    (hn : l.most = some n) (hn2 : n ≤ sizeLine) (hdf : d.params.defaults = []) (hr : Room k callerA) (hY : ∀ (w : World) (h : Heap), YP w h → (K w.params).In h)
    (F : ∀ (w : World) (mg : Str → Option Value) (fa : Addr) (h : Heap), (K w.params).In h → h.Ns mainGlobals mg → mg d.name = some (.ref fa) →
      ∃ fd : FuncData, (∀ (s : Shared) (u : Value), BindsTo s fd ⟨[u], []⟩ [(x, u)]) ∧ ∀ base : Heap, (K w.params).In base → base.Ns mainGlobals mg → FnC l.prog w (K w.params) mg base k fa fd [x] (sp w))
    (hsp : ∀ (w : World) (H : Hp) (a : Addr) (ns : List Int), ns.length ≤ n → SqL (K w.params) H a (ns.map V.int) → sp w [.ref a] H (fun v _ => v = .bl true) fun _ _ _ => False) :
    PySem.W.WalkO q loose XP YP l.row.toRowW d [] (fun f vs => PySem.call f vs) := by
  refine Att.attach_call hn hdf fun w s₀ s₁ mg mb fa o pm cd doc a vs ns G Y ho hd hcd hmg hobj hints hlen hg => ?_
  obtain ⟨fd, hb, hF⟩ := F w mg fa _ (hY w _ Y) G.T.g hmg
  exact callC (hY w _ Y) G.T.g G.T.b G.T.builtins G.T.nolimit hg hobj hints (Nat.le_trans hlen hn2) hr hF hb fun H hS => hsp w H a ns hlen hS
end K0

set_option Elab.async false
set_option linter.all false
set_option maxRecDepth 100000
set_option maxHeartbeats 1000000
namespace K0
open PySem L2
abbrev NL : List Str := ["script", "draw", "function", "before", "j", "inputs", "fuel", "due"]
def spLaw (K : PySem.W.Frag) : Sp := fun vs H Q _ => ∃ (a : Addr) (ns : List Int), vs = [.ref a] ∧ SqL K H a (ns.map V.int) ∧ ns.length ≤ 63 ∧ ∀ H', Q (.bl true) H'
def finD : Option Nat → List PyData
  | some z => [.str "return", .int (z : Int)]
  | none => [.str "none"]
def ivD (l : List Nat) : List PyData := l.map fun n : Nat => PyData.int (n : Int)
def psD (p : Ps) : PyData := .tuple [.list (ivD p.rs.writes), .tuple (finD p.fin), .int (p.labels.length : Int)]
theorem sh_ps (p : Ps) : SeqAt.shaped (psD p) = true := by
  have h1 := can_iv p.rs.writes
  have h2 := dep_iv p.rs.writes
  have c : PyData.canLay0 (psD p) = true := by
    unfold psD ivD
    simp only [PyData.canLay0, PyData.canLayAll0, h1, Bool.and_true, Bool.true_and]
    cases p.fin <;> simp [finD, PyData.canLay0, PyData.canLayAll0] <;> decide +kernel
  have d : PyData.depth (psD p) ≤ 64 := by
    unfold psD ivD
    simp only [PyData.depth, PyData.depthAll]
    have : PyData.depthAll (finD p.fin) ≤ 0 := by cases p.fin <;> simp [finD, PyData.depth, PyData.depthAll]
    omega
  unfold SeqAt.shaped
  rw [c, decide_eq_true d]
  rfl
theorem eq_sh {d : PyData} (h : SeqAt.shaped d = true) : PyData.eqv d d = true := SeqAt.eqv_refl d (SeqAt.canLay_of_shaped h)
theorem dp_fin {K : PySem.W.Frag} {H : Hp} (f : Option Nat) : DpAll K H (finV f) (finD f) := by
  cases f with
  | none => exact .cons (.str _) .nil
  | some z => exact .cons (.str _) (.cons (.int _) .nil)
theorem dp_ps {K : PySem.W.Frag} {H : Hp} {p : Ps} {a wa ea : Addr} (h1 : H a = some (.tup [.ref wa, .ref ea, .int (p.labels.length : Int)])) (h2 : H wa = some (.lst (iv p.rs.writes))) (h3 : H ea = some (.tup (finV p.fin))) : Dp K H (.ref a) (psD p) :=
  .tup (.inl (.of h1)) (.cons (.lst (.of h2) (dp_iv _)) (.cons (.tup (.inl (.of h3)) (dp_fin _)) (.cons (.int _) .nil)))
theorem fuel_in {t : Nat} (ht : t < 9) {k : Nat} (hk : k < 5) : ∃ r : Nat, ([.int 60, .int 60, .int 0, .int 1, .int (t : Int)] : List V)[k]? = some (.int (r : Int)) ∧ r ≤ 60 := by
  match k, hk with
  | 0, _ => exact ⟨60, rfl, by decide⟩
  | 1, _ => exact ⟨60, rfl, by decide⟩
  | 2, _ => exact ⟨0, rfl, by decide⟩
  | 3, _ => exact ⟨1, rfl, by decide⟩
  | 4, _ => exact ⟨t, rfl, by omega⟩
/-- run as it is called -/
structure GotN (P : Program) (w : World) (K : PySem.W.Frag) (mg : Str → Option Value) (base : Heap) : Prop where
  ex : ∃ (f : Addr) (fd : FuncData), FnOk P w K mg base CX0 11 f fd ["function", "inputs", "fuel"] spRun ∧ mg "run" = some (.ref f) ∧ PySem.W.keepIn K (.ref f) = true ∧ KBn K fd ["function", "inputs", "fuel"] 2 ["fuel"] (fun us ws => us ++ ws) (fun vs zs => vs ++ zs)
structure GotG (P : Program) (w : World) (K : PySem.W.Frag) (mg : Str → Option Value) (base : Heap) : Prop where
  ex : ∃ (f : Addr) (fd : FuncData), GFn P w K mg base 10 f fd ["function", "inputs", "fuel"] spTr ∧ mg "trace" = some (.ref f) ∧ PySem.W.keepIn K (.ref f) = true ∧ KBn K fd ["function", "inputs", "fuel"] 2 ["fuel"] (fun us ws => us ++ ws) (fun vs zs => vs ++ zs)
section
variable {P : Program} {w : World} {K : PySem.W.Frag} {mg : Str → Option Value} {base : Heap}
theorem scLaw : FnScope NL ["script"] (defScope sLaw) := ⟨rfl, rfl, rfl, by decide +kernel, rfl, by decide +kernel, by decide +kernel⟩
theorem ok_law {f : Addr} {fd : FuncData} (F : Fun K "law" "law" sLaw f fd) (mr : mg "range" = none) (mli : mg "list" = none) (mrp : mg "repr" = none)
    (GD : Got P w K mg base 1 "_law_draw" ["script"] (spDraw K)) (GT : Got P w K mg base 1 "_law_take" ["draw", "many"] spTake) (GF : Got P w K mg base 8 "_law_function" ["draw", "blocks", "most"] spF)
    (GI : Got P w K mg base 3 "_law_inputs" ["draw", "function"] spI) (GR : Got P w K mg base 6 "_law_run" ["function", "inputs", "fuel"] spR) (GN : GotN P w K mg base) (GG : GotG P w K mg base) : FnC P w K mg base 14 f fd ["script"] (spLaw K) := by
  obtain ⟨fD, fdD, GD, mD, kD, bD⟩ := GD.ex
  obtain ⟨fT, fdT, GT, mT, kT, bT⟩ := GT.ex
  obtain ⟨fF, fdF, GF, mF, kF, bF⟩ := GF.ex
  obtain ⟨fI, fdI, GI, mI, kI, bI⟩ := GI.ex
  obtain ⟨fR, fdR, GR, mR, kR, bR⟩ := GR.ex
  obtain ⟨fN, fdN, GN, mN, kN, bN⟩ := GN.ex
  obtain ⟨fG, fdG, GG, mG, kG, bG⟩ := GG.ex
  refine okC F scLaw (fun vs H Q E h => ?_) (fun cdv A outer s H vs Q E hg hr h => ?_)
  · obtain ⟨a, ns, rfl, _⟩ := h
    rfl
  · obtain ⟨a, ns, rfl, hS, hlen, q⟩ := h
    have nd := scLaw.nd
    have hr1 : Room 1 _ := hr.mono (by decide)
    have hr3 : Room 3 _ := hr.mono (by decide)
    have hr6 : Room 6 _ := hr.mono (by decide)
    have hr8 : Room 8 _ := hr.mono (by decide)
    have hr10 : Room 10 _ := hr.mono (by decide)
    have hr11 : Room 11 _ := hr.mono (by decide)
    have hr13 : Room (10 + 3) _ := hr
    have hgd := guards_deeper (env := PyProof.Rows.envOfC "law" (defScope sLaw) s.heap.objs.size f cdv) hg
    have hu40 : (A.deeper (PyProof.Rows.envOfC "law" (defScope sLaw) s.heap.objs.size f cdv)).units + 40 < cLine := by
      have := hr.un
      omega
    refine ⟨_, (pss_cons (ps_set (i := 1) nd rfl (.inl rfl) (pe_call GD hr1 (by rfl) mD kD bD .nil pass0 (pa_cons (pv 0) pa_nil))) (pss_cons (ps_set (i := 2) nd rfl (.inl rfl) (pe_call GF hr8 (by rfl) mF kF bF .nil pass0 (pa_cons (pv 1) (pa_cons pe_int (pa_cons pe_int pa_nil))))) (pss_cons (ps_set (i := 3) nd rfl (.inl rfl) (pe_callB (call_repr_data hgd hu40) (by rfl) mrp (by decide +kernel) (pa_cons (pv 2) pa_nil))) (pss_cons (ps_for PassesOwn.never rfl (pi_range1 (by rfl) mr (pa_cons pe_int pa_nil)) (pg_name (i := 4) nd rfl (.inl rfl)) (pss_cons (ps_set (i := 5) nd rfl (.inl rfl) (pe_call GI hr3 (by rfl) mI kI bI .nil pass0 (pa_cons (pv 1) (pa_cons (pv 2) pa_nil)))) (pss_cons (ps_set (i := 6) nd rfl (.inl rfl) (pe_ix (r := rIxL K) ix_list (pe_lst (pa_cons pe_int (pa_cons pe_int (pa_cons pe_int (pa_cons pe_int (pa_cons (pe_call GT hr1 (by rfl) mT kT bT .nil pass0 (pa_cons (pv 1) (pa_cons pe_int pa_nil))) pa_nil)))))) (pe_call GT hr1 (by rfl) mT kT bT .nil pass0 (pa_cons (pv 1) (pa_cons pe_int pa_nil))) (fun _ _ => rfl))) (pss_cons (ps_set (i := 7) nd rfl (.inl rfl) (pe_call GR hr6 (by rfl) mR kR bR .nil pass0 (pa_cons (pv 2) (pa_cons (pv 5) (pa_cons (pv 6) pa_nil))))) (pss_one (ps_if (PW.pt (pw_or (pt_cmpR (op_neD hr.units) (pe_callN GN hr11 (by rfl) mN kN bN pass0 (pa_cons (pv 2) (pa_cons (pv 5) pa_nil)) (pk_cons (pv 6) pk_nil)) (pe_slice sl_tup (pv 7) po_none (po_some pe_int)) (nomark _)) (pw_or1 (pt_cmpR (op_neD hr.units) (pe_listG (pgen_callN (E := fun _ _ _ => False) GG hr10 (by rfl) mG kG bG (pa_cons (pv 2) (pa_cons (pv 5) pa_nil)) (pk_cons (pv 6) pk_nil)) pass_gen nostop0 hr13 (by rfl) mli (by decide +kernel)) (pe_ix (r := rIxT K) ix_tup (pv 7) pe_int (fun _ _ => rfl)) (nomark _))))) (pss_one (ps_ret pe_bl)) pss_nil)))))) (pss_one (ps_ret (pe_cmpR op_eq (pe_callB (call_repr_data hgd hu40) (by rfl) mrp (by decide +kernel) (pa_cons (pv 2) pa_nil)) (pv 3) (nomark _)))))))), ?_⟩
    -- draw, function, before
    refine ⟨_, rfl, a, ns, rfl, hS, hlen, fun d c ms H1 D1 s1 nd1 => ?_⟩
    refine ⟨_, rfl, d, c, ms, 6, 5, rfl, D1, by decide, by decide, by decide, fun F v H2 ok hF D2 kp2 => ?_⟩
    obtain ⟨fa, rfl, hdp⟩ := dp_fn (K := K) hF
    have nz := nz_fn ok (by decide) (by decide)
    refine ⟨_, rfl, fa, fnD F, rfl, hdp, nz.sh, nz.nd, Nat.le_trans nz.dp (by decide), nz_shown nz, ?_⟩
    refine ⟨3, rfl, by decide, by decide, for_range (lo := 0) (n := 3) (fun i σ H' => ∃ y4 y5 y6 y7, σ = [some (.ref a), some (.ref d), some (.ref fa), some (.str (fnD F).shown), y4, y5, y6, y7] ∧ Drd H' d c ms ∧ FnAt H' F (.ref fa)) ⟨none, none, none, none, rfl, D2, hF⟩ ?_ ?_⟩
    · rintro j σ H3 hj ⟨y4, y5, y6, y7, rfl, D3, hF3⟩
      -- inputs, fuel
      refine ⟨_, rfl, _, rfl, d, c, ms, F, _, rfl, D3, hF3, ok.w1, ok.w16, ok.pr, fun ws ta H4 lw okw hta D4 kp4 => ?_⟩
      refine ⟨_, rfl, d, c, ms, 9, rfl, D4, by decide, by decide, fun t H5 ht D5 kp5 => ⟨(by show 5 ≤ sizeLine; decide), fun p hp => ?_⟩⟩
      refine ⟨_, rfl, d, c, ms, 5, rfl, D5.same (same_new hp), by decide, by decide, fun k H6 hk D6 kp6 => ?_⟩
      obtain ⟨fu, hv, f60⟩ := fuel_in (t := t) (by omega) (k := k) (by omega)
      refine ⟨p, _, _, _, rfl, rfl, .of (kp6 p _ upd_same (D5.ne hp)), atI_nat hv, ?_⟩
      have tp := Tups.of (same_new (o := .lst [.int 60, .int 60, .int 0, .int 1, .int (t : Int)]) hp)
      have t6 := Tups.keep (D5.same (same_new hp)) kp6
      have hF6 : FnAt H6 F (.ref fa) := (((hF3.mono (Tups.keep D3 kp4)).mono (Tups.keep D4 kp5)).mono tp).mono t6
      have hta6 : H6 ta = some (.tup (iv ws)) := t6 _ _ (tp _ _ (Tups.keep D4 kp5 _ _ hta))
      have lw6 : ws.length ≤ 6 := by
        rw [lw]
        exact ok.pr
      -- due
      refine ⟨_, rfl, _, rfl, _, rfl, 6, 5, F, _, ta, ws, fu, rfl, hF6, ok, by decide, by decide, hta6, lw6, okw, f60, fun ad wa ea la H7 s7 had hwa hea hla => ?_⟩
      -- run(..) != due[:3]
      refine ⟨_, rfl, _, rfl, _, rfl, rfl, rfl, 6, 5, F, _, ta, ws, fu, rfl, hF6.mono (Tups.of s7), ok, by decide, by decide, s7 _ _ hta6, lw6, okw, f60, fun ar wr er H8 s8 har hwr her => ?_⟩
      refine ⟨_, rfl, _, rfl, ad, _, rfl, .inl (.of (s8 _ _ had)), (fun z => absurd (show HT.sIx 4 4 (some 3) = 4 from z.2) (by decide)), fun q8 hq8 => ?_⟩
      have s9 := same_new (o := .tup (cutV [.ref wa, .ref ea, .int ((runP F fu (p0 F ws)).labels.length : Int), .ref la] none (some 3))) hq8
      refine ⟨psD (runP F fu (p0 F ws)), psD (runP F fu (p0 F ws)), dp_ps (s9 _ _ har) (s9 _ _ hwr) (s9 _ _ her), dp_ps upd_same (s9 _ _ (s8 _ _ hwa)) (s9 _ _ (s8 _ _ hea)), sh_ps _, sh_ps _, _, rfl, iteNb (eq_sh (sh_ps _)) ?_⟩
      -- list(trace(..)) != due[3]
      have s79 := (s7.trans s8).trans s9
      refine ⟨_, rfl, _, rfl, _, rfl, rfl, rfl, 6, 5, F, _, ta, ws, fu, rfl, hF6.mono (Tups.of s79), ok, by decide, by decide, s79 _ _ hta6, lw6, okw, f60, fun H9 s10 l9 hl9 => ?_⟩
      have s11 := same_new (o := .lst (iv (runP F fu (p0 F ws)).labels)) hl9
      have sl := ((s8.trans s9).trans s10).trans s11
      refine ⟨_, rfl, ad, _, _, _, rfl, rfl, .of (sl _ _ had), atI_nat (j := 3) rfl, ?_⟩
      refine ⟨.list (ivD (runP F fu (p0 F ws)).labels), .list (ivD (runP F fu (p0 F ws)).labels), .lst (.of upd_same) (dp_iv _), .lst (.of (sl _ _ hla)) (dp_iv _), sh_iv _, sh_iv _, _, rfl, iteNb (eq_sh (sh_iv _)) ?_⟩
      have sAll := (s79.trans s10).trans s11
      exact ⟨_, _, _, _, rfl, D6.same sAll, hF6.mono (Tups.of sAll)⟩
    · rintro σ H3 ⟨y4, y5, y6, y7, rfl, D3, hF3⟩
      obtain ⟨fb, e, hdp3⟩ := dp_fn (K := K) hF3
      cases e
      refine ⟨_, rfl, fa, fnD F, rfl, hdp3, nz.sh, nz.nd, Nat.le_trans nz.dp (by decide), nz_shown nz, ?_⟩
      have key : ∀ x : V, Q (.bl (decide (x = x))) H3 := fun x => by
        rw [decide_eq_true rfl]
        exact q H3
      exact ⟨_, rfl, rfl, key _⟩
end
end K0

set_option Elab.async false
set_option linter.all false
set_option maxRecDepth 100000
set_option maxHeartbeats 2000000
namespace K0
open PySem L2
theorem all_mk {l : PySem.W.OpenLaw} {w : World} {K : PySem.W.Frag} {h : Heap} {mg : Str → Option Value} {fa C B pP pS dA f1 f2 f3 f4 f5 f6 f7 f8 f9 f10 f11 f12 f13 f14 f15 f16 f17 f18 f19 f20 f21 f22 f23 f24 f25 f26 f27 f28 f29 f30 f31 f32 f33 f34 f35 f36 : Addr} (X : K.In h) (G : h.Ns mainGlobals mg) (hfa : mg "law" = some (.ref fa))
    {odP odS od1 an1 od2 an2 od3 an3 od4 an4 od5 an5 od6 an6 od7 an7 od8 an8 od9 an9 od10 an10 od11 an11 od12 an12 od13 an13 od14 an14 od15 an15 od16 an16 od17 an17 od18 an18 od19 an19 od20 an20 od21 an21 od22 an22 od23 an23 od24 an24 od25 an25 od26 an26 od27 an27 od28 an28 od29 an29 od30 an30 od31 an31 od32 an32 od33 an33 od34 an34 od35 an35 od36 an36 : Option Addr} {slP slS sl1 sl2 sl3 sl4 sl5 sl6 sl7 sl8 sl9 sl10 sl11 sl12 sl13 sl14 sl15 sl16 sl17 sl18 sl19 sl20 sl21 sl22 sl23 sl24 sl25 sl26 sl27 sl28 sl29 sl30 sl31 sl32 sl33 sl34 sl35 sl36 : Array (Option Value)} {oc1 kV1 dc1 pm1 cd1 ct1 oc2 kV2 dc2 pm2 cd2 ct2 oc3 kV3 dc3 pm3 cd3 ct3 oc4 kV4 dc4 pm4 cd4 ct4 oc5 kV5 dc5 pm5 cd5 ct5 oc6 kV6 dc6 pm6 cd6 ct6 oc7 kV7 dc7 pm7 cd7 ct7 oc8 kV8 dc8 pm8 cd8 ct8 oc9 kV9 dc9 pm9 cd9 ct9 oc10 kV10 dc10 pm10 cd10 ct10 oc11 kV11 dc11 pm11 cd11 ct11 oc12 kV12 dc12 pm12 cd12 ct12 oc13 kV13 dc13 pm13 cd13 ct13 oc14 kV14 dc14 pm14 cd14 ct14 oc15 kV15 dc15 pm15 cd15 ct15 oc16 kV16 dc16 pm16 cd16 ct16 oc17 kV17 dc17 pm17 cd17 ct17 oc18 kV18 dc18 pm18 cd18 ct18 oc19 kV19 dc19 pm19 cd19 ct19 oc20 kV20 dc20 pm20 cd20 ct20 oc21 kV21 dc21 pm21 cd21 ct21 oc22 kV22 dc22 pm22 cd22 ct22 oc23 kV23 dc23 pm23 cd23 ct23 oc24 kV24 dc24 pm24 cd24 ct24 oc25 kV25 dc25 pm25 cd25 ct25 oc26 kV26 dc26 pm26 cd26 ct26 oc27 kV27 dc27 pm27 cd27 ct27 oc28 kV28 dc28 pm28 cd28 ct28 oc29 kV29 dc29 pm29 cd29 ct29 oc30 kV30 dc30 pm30 cd30 ct30 oc31 kV31 dc31 pm31 cd31 ct31 oc32 kV32 dc32 pm32 cd32 ct32 oc33 kV33 dc33 pm33 cd33 ct33 oc34 kV34 dc34 pm34 cd34 ct34 oc35 kV35 dc35 pm35 cd35 ct35 oc36 kV36 dc36 pm36 cd36 ct36 : Value}
    {iP iS : Array Value} {nP nS nD tC : Nat} {es : Array DictEntry}
    (aD : PySem.W.nsIn K mainGlobals "_ACTIONS" = some (some (.ref dA))) (lD : K.lookup dA = some ⟨.type "dict", none, .dict es nD, #[]⟩) (kD : PySem.W.KeysLit w.params es.toList)
    (aP : PySem.W.nsIn K mainGlobals "PAIRS" = some (some (.ref pP))) (lP : K.lookup pP = some ⟨.type "tuple", odP, .seq iP nP, slP⟩) (vP : Vals ten iP.toList) (zP : iP.size ≤ sizeLine)
    (aS : PySem.W.nsIn K mainGlobals "SINGLES" = some (some (.ref pS))) (lS : K.lookup pS = some ⟨.type "tuple", odS, .seq iS nS, slS⟩) (vS : Vals [.str "not", .str "neg"] iS.toList) (zS : iS.size ≤ sizeLine)
    (aCE : PySem.W.nsIn K mainGlobals "CELLS" = some (some (.int 16 tC))) (aC : PySem.W.nsIn K mainGlobals "Play" = some (some (.ref C))) (aB : PySem.W.nsIn K mainGlobals "Steps" = some (some (.ref B))) (rdB : PySem.W.readsIn K B (.type "type") = true) (gaB : PySem.W.specialIn K (.ref B) "__getattribute__" = some (some (.builtin "type.__getattribute__")))
    (a1 : PySem.W.nsIn K mainGlobals "top" = some (some (.ref f1))) (l1 : K.lookup f1 = some ⟨oc1, od1, .func (PySem.W.fnOf "top" "top" (defArgs sTop) (defBody sTop) (defScope sTop) .none kV1 dc1 pm1 an1 cd1 ct1), sl1⟩) (c1 : PySem.W.codeIn K cd1 "top" = true) (k1 : PySem.W.keepIn K (.ref f1) = true)
    (a2 : PySem.W.nsIn K mainGlobals "compute" = some (some (.ref f2))) (l2 : K.lookup f2 = some ⟨oc2, od2, .func (PySem.W.fnOf "compute" "compute" (defArgs sCompute) (defBody sCompute) (defScope sCompute) .none kV2 dc2 pm2 an2 cd2 ct2), sl2⟩) (c2 : PySem.W.codeIn K cd2 "compute" = true) (k2 : PySem.W.keepIn K (.ref f2) = true)
    (a3 : PySem.W.nsIn K mainGlobals "finish" = some (some (.ref f3))) (l3 : K.lookup f3 = some ⟨oc3, od3, .func (PySem.W.fnOf "finish" "finish" (defArgs sFin) (defBody sFin) (defScope sFin) .none kV3 dc3 pm3 an3 cd3 ct3), sl3⟩) (c3 : PySem.W.codeIn K cd3 "finish" = true) (k3 : PySem.W.keepIn K (.ref f3) = true)
    (a4 : PySem.W.nsIn K mainGlobals "run" = some (some (.ref f4))) (l4 : K.lookup f4 = some ⟨oc4, od4, .func (PySem.W.fnOf "run" "run" (defArgs sRunP) (defBody sRunP) (defScope sRunP) .none kV4 dc4 pm4 an4 cd4 ct4), sl4⟩) (c4 : PySem.W.codeIn K cd4 "run" = true) (k4 : PySem.W.keepIn K (.ref f4) = true)
    (a5 : PySem.W.nsIn K mainGlobals "trace" = some (some (.ref f5))) (l5 : K.lookup f5 = some ⟨oc5, od5, .func (PySem.W.fnOf "trace" "trace" (defArgs sTrace) (defBody sTrace) (defScope sTrace) .none kV5 dc5 pm5 an5 cd5 ct5), sl5⟩) (c5 : PySem.W.codeIn K cd5 "trace" = true) (k5 : PySem.W.keepIn K (.ref f5) = true)
    (a6 : PySem.W.nsIn K mainGlobals "_law_draw" = some (some (.ref f6))) (l6 : K.lookup f6 = some ⟨oc6, od6, .func (PySem.W.fnOf "_law_draw" "_law_draw" (defArgs sDraw) (defBody sDraw) (defScope sDraw) .none kV6 dc6 pm6 an6 cd6 ct6), sl6⟩) (c6 : PySem.W.codeIn K cd6 "_law_draw" = true) (k6 : PySem.W.keepIn K (.ref f6) = true)
    (a7 : PySem.W.nsIn K mainGlobals "_law_take" = some (some (.ref f7))) (l7 : K.lookup f7 = some ⟨oc7, od7, .func (PySem.W.fnOf "_law_take" "_law_take" (defArgs sTake) (defBody sTake) (defScope sTake) .none kV7 dc7 pm7 an7 cd7 ct7), sl7⟩) (c7 : PySem.W.codeIn K cd7 "_law_take" = true) (k7 : PySem.W.keepIn K (.ref f7) = true)
    (a8 : PySem.W.nsIn K mainGlobals "_law_top" = some (some (.ref f8))) (l8 : K.lookup f8 = some ⟨oc8, od8, .func (PySem.W.fnOf "_law_top" "_law_top" (defArgs sLTop) (defBody sLTop) (defScope sLTop) .none kV8 dc8 pm8 an8 cd8 ct8), sl8⟩) (c8 : PySem.W.codeIn K cd8 "_law_top" = true) (k8 : PySem.W.keepIn K (.ref f8) = true)
    (a9 : PySem.W.nsIn K mainGlobals "_law_compute" = some (some (.ref f9))) (l9 : K.lookup f9 = some ⟨oc9, od9, .func (PySem.W.fnOf "_law_compute" "_law_compute" (defArgs sLComp) (defBody sLComp) (defScope sLComp) .none kV9 dc9 pm9 an9 cd9 ct9), sl9⟩) (c9 : PySem.W.codeIn K cd9 "_law_compute" = true) (k9 : PySem.W.keepIn K (.ref f9) = true)
    (a10 : PySem.W.nsIn K mainGlobals "_law_pairs" = some (some (.ref f10))) (l10 : K.lookup f10 = some ⟨oc10, od10, .func (PySem.W.fnOf "_law_pairs" "_law_pairs" (defArgs sPairs) (defBody sPairs) (defScope sPairs) .none kV10 dc10 pm10 an10 cd10 ct10), sl10⟩) (c10 : PySem.W.codeIn K cd10 "_law_pairs" = true) (k10 : PySem.W.keepIn K (.ref f10) = true)
    (a11 : PySem.W.nsIn K mainGlobals "_law_word" = some (some (.ref f11))) (l11 : K.lookup f11 = some ⟨oc11, od11, .func (PySem.W.fnOf "_law_word" "_law_word" (defArgs sWord) (defBody sWord) (defScope sWord) .none kV11 dc11 pm11 an11 cd11 ct11), sl11⟩) (c11 : PySem.W.codeIn K cd11 "_law_word" = true) (k11 : PySem.W.keepIn K (.ref f11) = true)
    (a12 : PySem.W.nsIn K mainGlobals "_law_expression" = some (some (.ref f12))) (l12 : K.lookup f12 = some ⟨oc12, od12, .func (PySem.W.fnOf "_law_expression" "_law_expression" (defArgs sExpr) (defBody sExpr) (defScope sExpr) .none kV12 dc12 pm12 an12 cd12 ct12), sl12⟩) (c12 : PySem.W.codeIn K cd12 "_law_expression" = true) (k12 : PySem.W.keepIn K (.ref f12) = true)
    (a13 : PySem.W.nsIn K mainGlobals "_law_statement" = some (some (.ref f13))) (l13 : K.lookup f13 = some ⟨oc13, od13, .func (PySem.W.fnOf "_law_statement" "_law_statement" (defArgs sStmt) (defBody sStmt) (defScope sStmt) .none kV13 dc13 pm13 an13 cd13 ct13), sl13⟩) (c13 : PySem.W.codeIn K cd13 "_law_statement" = true) (k13 : PySem.W.keepIn K (.ref f13) = true)
    (a14 : PySem.W.nsIn K mainGlobals "_law_function" = some (some (.ref f14))) (l14 : K.lookup f14 = some ⟨oc14, od14, .func (PySem.W.fnOf "_law_function" "_law_function" (defArgs sFun) (defBody sFun) (defScope sFun) .none kV14 dc14 pm14 an14 cd14 ct14), sl14⟩) (c14 : PySem.W.codeIn K cd14 "_law_function" = true) (k14 : PySem.W.keepIn K (.ref f14) = true)
    (a15 : PySem.W.nsIn K mainGlobals "_law_inputs" = some (some (.ref f15))) (l15 : K.lookup f15 = some ⟨oc15, od15, .func (PySem.W.fnOf "_law_inputs" "_law_inputs" (defArgs sInputs) (defBody sInputs) (defScope sInputs) .none kV15 dc15 pm15 an15 cd15 ct15), sl15⟩) (c15 : PySem.W.codeIn K cd15 "_law_inputs" = true) (k15 : PySem.W.keepIn K (.ref f15) = true)
    (a16 : PySem.W.nsIn K mainGlobals "_law_value" = some (some (.ref f16))) (l16 : K.lookup f16 = some ⟨oc16, od16, .func (PySem.W.fnOf "_law_value" "_law_value" (defArgs sVal) (defBody sVal) (defScope sVal) .none kV16 dc16 pm16 an16 cd16 ct16), sl16⟩) (c16 : PySem.W.codeIn K cd16 "_law_value" = true) (k16 : PySem.W.keepIn K (.ref f16) = true)
    (a17 : PySem.W.nsIn K mainGlobals "_law_run" = some (some (.ref f17))) (l17 : K.lookup f17 = some ⟨oc17, od17, .func (PySem.W.fnOf "_law_run" "_law_run" (defArgs sLRun) (defBody sLRun) (defScope sLRun) .none kV17 dc17 pm17 an17 cd17 ct17), sl17⟩) (c17 : PySem.W.codeIn K cd17 "_law_run" = true) (k17 : PySem.W.keepIn K (.ref f17) = true)
    (a18 : PySem.W.nsIn K mainGlobals "law" = some (some (.ref f18))) (l18 : K.lookup f18 = some ⟨oc18, od18, .func (PySem.W.fnOf "law" "law" (defArgs sLaw) (defBody sLaw) (defScope sLaw) .none kV18 dc18 pm18 an18 cd18 ct18), sl18⟩) (c18 : PySem.W.codeIn K cd18 "law" = true) (k18 : PySem.W.keepIn K (.ref f18) = true)
    (a19 : PySem.W.nsIn K dA "add" = some (some (.ref f19))) (l19 : K.lookup f19 = some ⟨oc19, od19, .func (PySem.W.fnOf "_add" "_add" (defArgs sAdd) (defBody sAdd) (defScope sAdd) .none kV19 dc19 pm19 an19 cd19 ct19), sl19⟩) (c19 : PySem.W.codeIn K cd19 "_add" = true) (k19 : PySem.W.keepIn K (.ref f19) = true)
    (a20 : PySem.W.nsIn K dA "sub" = some (some (.ref f20))) (l20 : K.lookup f20 = some ⟨oc20, od20, .func (PySem.W.fnOf "_sub" "_sub" (defArgs sSub) (defBody sSub) (defScope sSub) .none kV20 dc20 pm20 an20 cd20 ct20), sl20⟩) (c20 : PySem.W.codeIn K cd20 "_sub" = true) (k20 : PySem.W.keepIn K (.ref f20) = true)
    (a21 : PySem.W.nsIn K dA "mul" = some (some (.ref f21))) (l21 : K.lookup f21 = some ⟨oc21, od21, .func (PySem.W.fnOf "_mul" "_mul" (defArgs sMul) (defBody sMul) (defScope sMul) .none kV21 dc21 pm21 an21 cd21 ct21), sl21⟩) (c21 : PySem.W.codeIn K cd21 "_mul" = true) (k21 : PySem.W.keepIn K (.ref f21) = true)
    (a22 : PySem.W.nsIn K dA "and" = some (some (.ref f22))) (l22 : K.lookup f22 = some ⟨oc22, od22, .func (PySem.W.fnOf "_and" "_and" (defArgs sAnd) (defBody sAnd) (defScope sAnd) .none kV22 dc22 pm22 an22 cd22 ct22), sl22⟩) (c22 : PySem.W.codeIn K cd22 "_and" = true) (k22 : PySem.W.keepIn K (.ref f22) = true)
    (a23 : PySem.W.nsIn K dA "or" = some (some (.ref f23))) (l23 : K.lookup f23 = some ⟨oc23, od23, .func (PySem.W.fnOf "_or" "_or" (defArgs sOr) (defBody sOr) (defScope sOr) .none kV23 dc23 pm23 an23 cd23 ct23), sl23⟩) (c23 : PySem.W.codeIn K cd23 "_or" = true) (k23 : PySem.W.keepIn K (.ref f23) = true)
    (a24 : PySem.W.nsIn K dA "xor" = some (some (.ref f24))) (l24 : K.lookup f24 = some ⟨oc24, od24, .func (PySem.W.fnOf "_xor" "_xor" (defArgs sXor) (defBody sXor) (defScope sXor) .none kV24 dc24 pm24 an24 cd24 ct24), sl24⟩) (c24 : PySem.W.codeIn K cd24 "_xor" = true) (k24 : PySem.W.keepIn K (.ref f24) = true)
    (a25 : PySem.W.nsIn K dA "shl" = some (some (.ref f25))) (l25 : K.lookup f25 = some ⟨oc25, od25, .func (PySem.W.fnOf "_shl" "_shl" (defArgs sShl) (defBody sShl) (defScope sShl) .none kV25 dc25 pm25 an25 cd25 ct25), sl25⟩) (c25 : PySem.W.codeIn K cd25 "_shl" = true) (k25 : PySem.W.keepIn K (.ref f25) = true)
    (a26 : PySem.W.nsIn K dA "shr" = some (some (.ref f26))) (l26 : K.lookup f26 = some ⟨oc26, od26, .func (PySem.W.fnOf "_shr" "_shr" (defArgs sShr) (defBody sShr) (defScope sShr) .none kV26 dc26 pm26 an26 cd26 ct26), sl26⟩) (c26 : PySem.W.codeIn K cd26 "_shr" = true) (k26 : PySem.W.keepIn K (.ref f26) = true)
    (a27 : PySem.W.nsIn K dA "less" = some (some (.ref f27))) (l27 : K.lookup f27 = some ⟨oc27, od27, .func (PySem.W.fnOf "_less" "_less" (defArgs sLess) (defBody sLess) (defScope sLess) .none kV27 dc27 pm27 an27 cd27 ct27), sl27⟩) (c27 : PySem.W.codeIn K cd27 "_less" = true) (k27 : PySem.W.keepIn K (.ref f27) = true)
    (a28 : PySem.W.nsIn K dA "equal" = some (some (.ref f28))) (l28 : K.lookup f28 = some ⟨oc28, od28, .func (PySem.W.fnOf "_equal" "_equal" (defArgs sEqual) (defBody sEqual) (defScope sEqual) .none kV28 dc28 pm28 an28 cd28 ct28), sl28⟩) (c28 : PySem.W.codeIn K cd28 "_equal" = true) (k28 : PySem.W.keepIn K (.ref f28) = true)
    (a29 : PySem.W.nsIn K dA "not" = some (some (.ref f29))) (l29 : K.lookup f29 = some ⟨oc29, od29, .func (PySem.W.fnOf "_not" "_not" (defArgs sNot) (defBody sNot) (defScope sNot) .none kV29 dc29 pm29 an29 cd29 ct29), sl29⟩) (c29 : PySem.W.codeIn K cd29 "_not" = true) (k29 : PySem.W.keepIn K (.ref f29) = true)
    (a30 : PySem.W.nsIn K dA "neg" = some (some (.ref f30))) (l30 : K.lookup f30 = some ⟨oc30, od30, .func (PySem.W.fnOf "_neg" "_neg" (defArgs sNeg) (defBody sNeg) (defScope sNeg) .none kV30 dc30 pm30 an30 cd30 ct30), sl30⟩) (c30 : PySem.W.codeIn K cd30 "_neg" = true) (k30 : PySem.W.keepIn K (.ref f30) = true)
    (a31 : PySem.W.findIn K (.ref C) "__init__" = some (some (.ref f31))) (i31 : PySem.W.isFn K (.ref f31) = true) (l31 : K.lookup f31 = some ⟨oc31, od31, .func (PySem.W.fnOf "__init__" "Play.__init__" (defArgs sInit) (defBody sInit) (defScope sInit) .none kV31 dc31 pm31 an31 cd31 ct31), sl31⟩) (c31 : PySem.W.codeIn K cd31 "Play.__init__" = true) (k31 : PySem.W.keepIn K (.ref f31) = true)
    (a32 : PySem.W.findIn K (.ref C) "may_enter" = some (some (.ref f32))) (i32 : PySem.W.isFn K (.ref f32) = true) (l32 : K.lookup f32 = some ⟨oc32, od32, .func (PySem.W.fnOf "may_enter" "Steps.may_enter" (defArgs sMay) (defBody sMay) (defScope sMay) .none kV32 dc32 pm32 an32 cd32 ct32), sl32⟩) (c32 : PySem.W.codeIn K cd32 "Steps.may_enter" = true) (k32 : PySem.W.keepIn K (.ref f32) = true)
    (a33 : PySem.W.findIn K (.ref C) "enter" = some (some (.ref f33))) (i33 : PySem.W.isFn K (.ref f33) = true) (l33 : K.lookup f33 = some ⟨oc33, od33, .func (PySem.W.fnOf "enter" "Play.enter" (defArgs sEnter) (defBody sEnter) (defScope sEnter) .none kV33 dc33 pm33 an33 cd33 ct33), sl33⟩) (c33 : PySem.W.codeIn K cd33 "Play.enter" = true) (k33 : PySem.W.keepIn K (.ref f33) = true)
    (a34 : PySem.W.findIn K (.ref C) "do_item" = some (some (.ref f34))) (i34 : PySem.W.isFn K (.ref f34) = true) (l34 : K.lookup f34 = some ⟨oc34, od34, .func (PySem.W.fnOf "do_item" "Play.do_item" (defArgs sItem) (defBody sItem) (defScope sItem) .none kV34 dc34 pm34 an34 cd34 ct34), sl34⟩) (c34 : PySem.W.codeIn K cd34 "Play.do_item" = true) (k34 : PySem.W.keepIn K (.ref f34) = true)
    (a35 : PySem.W.findIn K (.ref C) "word_of" = some (some (.ref f35))) (i35 : PySem.W.isFn K (.ref f35) = true) (l35 : K.lookup f35 = some ⟨oc35, od35, .func (PySem.W.fnOf "word_of" "Play.word_of" (defArgs sWordOf) (defBody sWordOf) (defScope sWordOf) .none kV35 dc35 pm35 an35 cd35 ct35), sl35⟩) (c35 : PySem.W.codeIn K cd35 "Play.word_of" = true) (k35 : PySem.W.keepIn K (.ref f35) = true)
    (a36 : PySem.W.findCls K (.ref B) (.type "type") "__init__" = some (.val (.ref f36))) (l36 : K.lookup f36 = some ⟨oc36, od36, .func (PySem.W.fnOf "__init__" "Steps.__init__" (defArgs sStI) (defBody sStI) (defScope sStI) .none kV36 dc36 pm36 an36 cd36 ct36), sl36⟩) (c36 : PySem.W.codeIn K cd36 "Steps.__init__" = true) (k36 : PySem.W.keepIn K (.ref f36) = true)
    (pgC : PySem.W.plainGet K C Str.empty = true) (hdC : PySem.W.hasDictIn K C = true) (poC : PySem.W.plainOver K C = true) (saC : PySem.W.findIn K (.ref C) "__setattr__" = some (some (.builtin "object.__setattr__"))) (mkC : PySem.W.makesIn K C = true) (kcC : PySem.W.keepIn K (.ref C) = true)
    (nWi : PySem.W.findIn K (.ref C) "width" = some none)
    (nBl : PySem.W.findIn K (.ref C) "blocks" = some none)
    (nLa : PySem.W.findIn K (.ref C) "label" = some none)
    (nWo : PySem.W.findIn K (.ref C) "words" = some none)
    (nMe : PySem.W.findIn K (.ref C) "memory" = some none)
    (nWr : PySem.W.findIn K (.ref C) "writes" = some none)
    (nEn : PySem.W.findIn K (.ref C) "end" = some none)
    (nSt : PySem.W.findIn K (.ref C) "steps" = some none)
    (z_len : PySem.W.nsIn K mainGlobals "len" = some none)
    (z_int : PySem.W.nsIn K mainGlobals "int" = some none)
    (z_abs : PySem.W.nsIn K mainGlobals "abs" = some none)
    (z_range : PySem.W.nsIn K mainGlobals "range" = some none)
    (z_min : PySem.W.nsIn K mainGlobals "min" = some none)
    (z_tuple : PySem.W.nsIn K mainGlobals "tuple" = some none)
    (z_list : PySem.W.nsIn K mainGlobals "list" = some none)
    (z_repr : PySem.W.nsIn K mainGlobals "repr" = some none)
    (z_enumerate : PySem.W.nsIn K mainGlobals "enumerate" = some none) :
    ∃ fd : FuncData, (∀ (s : Shared) (v : Value), BindsTo s fd ⟨[v], []⟩ [("script", v)]) ∧ ∀ base : Heap, K.In base → base.Ns mainGlobals mg → FnC l.prog w K mg base 14 fa fd ["script"] (spLaw K) := by
  have e := hfa.symm.trans (PySem.W.mg_of X G a18)
  cases e
  have F1 := fun_mk (st := sTop) l1 c1 k1
  have b1 := F1.binds (ps := ["w"]) fun _ _ _ _ _ _ us hl => match us, hl with | [_], _ => rfl
  have m1 := PySem.W.mg_of X G a1
  have F2 := fun_mk (st := sCompute) l2 c2 k2
  have b2 := F2.binds (ps := ["op", "w", "x", "y"]) fun _ _ _ _ _ _ us hl => match us, hl with | [_, _, _, _], _ => rfl
  have m2 := PySem.W.mg_of X G a2
  have F3 := fun_mk (st := sFin) l3 c3 k3
  have b3 := F3.binds (ps := ["play", "fuel"]) fun _ _ _ _ _ _ us hl => match us, hl with | [_, _], _ => rfl
  have m3 := PySem.W.mg_of X G a3
  have F4 := fun_mk (st := sRunP) l4 c4 k4
  have m4 := PySem.W.mg_of X G a4
  have F5 := fun_mk (st := sTrace) l5 c5 k5
  have m5 := PySem.W.mg_of X G a5
  have F6 := fun_mk (st := sDraw) l6 c6 k6
  have b6 := F6.binds (ps := ["script"]) fun _ _ _ _ _ _ us hl => match us, hl with | [_], _ => rfl
  have m6 := PySem.W.mg_of X G a6
  have F7 := fun_mk (st := sTake) l7 c7 k7
  have b7 := F7.binds (ps := ["draw", "many"]) fun _ _ _ _ _ _ us hl => match us, hl with | [_, _], _ => rfl
  have m7 := PySem.W.mg_of X G a7
  have F8 := fun_mk (st := sLTop) l8 c8 k8
  have b8 := F8.binds (ps := ["w"]) fun _ _ _ _ _ _ us hl => match us, hl with | [_], _ => rfl
  have m8 := PySem.W.mg_of X G a8
  have F9 := fun_mk (st := sLComp) l9 c9 k9
  have b9 := F9.binds (ps := ["op", "w", "x", "y"]) fun _ _ _ _ _ _ us hl => match us, hl with | [_, _, _, _], _ => rfl
  have m9 := PySem.W.mg_of X G a9
  have F10 := fun_mk (st := sPairs) l10 c10 k10
  have b10 := F10.binds (ps := []) fun _ _ _ _ _ _ us hl => match us, hl with | [], _ => rfl
  have m10 := PySem.W.mg_of X G a10
  have F11 := fun_mk (st := sWord) l11 c11 k11
  have b11 := F11.binds (ps := ["draw", "w"]) fun _ _ _ _ _ _ us hl => match us, hl with | [_, _], _ => rfl
  have m11 := PySem.W.mg_of X G a11
  have F12 := fun_mk (st := sExpr) l12 c12 k12
  have b12 := F12.binds (ps := ["p", "depth"]) fun _ _ _ _ _ _ us hl => match us, hl with | [_, _], _ => rfl
  have m12 := PySem.W.mg_of X G a12
  have F13 := fun_mk (st := sStmt) l13 c13 k13
  have b13 := F13.binds (ps := ["p"]) fun _ _ _ _ _ _ us hl => match us, hl with | [_], _ => rfl
  have m13 := PySem.W.mg_of X G a13
  have F14 := fun_mk (st := sFun) l14 c14 k14
  have b14 := F14.binds (ps := ["draw", "blocks", "most"]) fun _ _ _ _ _ _ us hl => match us, hl with | [_, _, _], _ => rfl
  have m14 := PySem.W.mg_of X G a14
  have F15 := fun_mk (st := sInputs) l15 c15 k15
  have b15 := F15.binds (ps := ["draw", "function"]) fun _ _ _ _ _ _ us hl => match us, hl with | [_, _], _ => rfl
  have m15 := PySem.W.mg_of X G a15
  have F16 := fun_mk (st := sVal) l16 c16 k16
  have b16 := F16.binds (ps := ["w", "e", "variables", "memory"]) fun _ _ _ _ _ _ us hl => match us, hl with | [_, _, _, _], _ => rfl
  have m16 := PySem.W.mg_of X G a16
  have F17 := fun_mk (st := sLRun) l17 c17 k17
  have b17 := F17.binds (ps := ["function", "inputs", "fuel"]) fun _ _ _ _ _ _ us hl => match us, hl with | [_, _, _], _ => rfl
  have m17 := PySem.W.mg_of X G a17
  have F18 := fun_mk (st := sLaw) l18 c18 k18
  have m18 := PySem.W.mg_of X G a18
  have F19 := fun_mk (st := sAdd) l19 c19 k19
  have b19 := F19.binds (ps := ["w", "x", "y"]) fun _ _ _ _ _ _ us hl => match us, hl with | [_, _, _], _ => rfl
  have F20 := fun_mk (st := sSub) l20 c20 k20
  have b20 := F20.binds (ps := ["w", "x", "y"]) fun _ _ _ _ _ _ us hl => match us, hl with | [_, _, _], _ => rfl
  have F21 := fun_mk (st := sMul) l21 c21 k21
  have b21 := F21.binds (ps := ["w", "x", "y"]) fun _ _ _ _ _ _ us hl => match us, hl with | [_, _, _], _ => rfl
  have F22 := fun_mk (st := sAnd) l22 c22 k22
  have b22 := F22.binds (ps := ["_", "x", "y"]) fun _ _ _ _ _ _ us hl => match us, hl with | [_, _, _], _ => rfl
  have F23 := fun_mk (st := sOr) l23 c23 k23
  have b23 := F23.binds (ps := ["_", "x", "y"]) fun _ _ _ _ _ _ us hl => match us, hl with | [_, _, _], _ => rfl
  have F24 := fun_mk (st := sXor) l24 c24 k24
  have b24 := F24.binds (ps := ["_", "x", "y"]) fun _ _ _ _ _ _ us hl => match us, hl with | [_, _, _], _ => rfl
  have F25 := fun_mk (st := sShl) l25 c25 k25
  have b25 := F25.binds (ps := ["w", "x", "y"]) fun _ _ _ _ _ _ us hl => match us, hl with | [_, _, _], _ => rfl
  have F26 := fun_mk (st := sShr) l26 c26 k26
  have b26 := F26.binds (ps := ["w", "x", "y"]) fun _ _ _ _ _ _ us hl => match us, hl with | [_, _, _], _ => rfl
  have F27 := fun_mk (st := sLess) l27 c27 k27
  have b27 := F27.binds (ps := ["_", "x", "y"]) fun _ _ _ _ _ _ us hl => match us, hl with | [_, _, _], _ => rfl
  have F28 := fun_mk (st := sEqual) l28 c28 k28
  have b28 := F28.binds (ps := ["_", "x", "y"]) fun _ _ _ _ _ _ us hl => match us, hl with | [_, _, _], _ => rfl
  have F29 := fun_mk (st := sNot) l29 c29 k29
  have b29 := F29.binds (ps := ["w", "x", "_"]) fun _ _ _ _ _ _ us hl => match us, hl with | [_, _, _], _ => rfl
  have F30 := fun_mk (st := sNeg) l30 c30 k30
  have b30 := F30.binds (ps := ["w", "x", "_"]) fun _ _ _ _ _ _ us hl => match us, hl with | [_, _, _], _ => rfl
  have F31 := fun_mk (st := sInit) l31 c31 k31
  have b31 := F31.binds (ps := ["self", "function", "inputs"]) fun _ _ _ _ _ _ us hl => match us, hl with | [_, _, _], _ => rfl
  have F32 := fun_mk (st := sMay) l32 c32 k32
  have b32 := F32.binds (ps := ["self", "fuel"]) fun _ _ _ _ _ _ us hl => match us, hl with | [_, _], _ => rfl
  have F33 := fun_mk (st := sEnter) l33 c33 k33
  have b33 := F33.binds (ps := ["self"]) fun _ _ _ _ _ _ us hl => match us, hl with | [_], _ => rfl
  have F34 := fun_mk (st := sItem) l34 c34 k34
  have b34 := F34.binds (ps := ["self", "item"]) fun _ _ _ _ _ _ us hl => match us, hl with | [_, _], _ => rfl
  have F35 := fun_mk (st := sWordOf) l35 c35 k35
  have b35 := F35.binds (ps := ["self", "e"]) fun _ _ _ _ _ _ us hl => match us, hl with | [_, _], _ => rfl
  have F36 := fun_mk (st := sStI) l36 c36 k36
  have b36 := F36.binds (ps := ["self", "blocks"]) fun _ _ _ _ _ _ us hl => match us, hl with | [_, _], _ => rfl
  have n_len := PySem.W.mg_none_of X G z_len
  have n_int := PySem.W.mg_none_of X G z_int
  have n_abs := PySem.W.mg_none_of X G z_abs
  have n_range := PySem.W.mg_none_of X G z_range
  have n_min := PySem.W.mg_none_of X G z_min
  have n_tuple := PySem.W.mg_none_of X G z_tuple
  have n_list := PySem.W.mg_none_of X G z_list
  have n_repr := PySem.W.mg_none_of X G z_repr
  have n_enumerate := PySem.W.mg_none_of X G z_enumerate
  have TX : TxP K mg C pP pS := ⟨⟨pgC, hdC, poC, saC⟩, nWi, nBl, nLa, nWo, nMe, nWr, nEn, nSt, PySem.W.mg_of X G aP, PySem.W.mg_of X G aS, fun H => .inr ⟨_, iP, nP, lP, rfl, rfl, zP, vP⟩, fun H => .inr ⟨_, iS, nS, lS, rfl, rfl, zS, vS⟩, ⟨tC, PySem.W.mg_of X G aCE⟩⟩
  refine ⟨PySem.W.fnOf "law" "law" (defArgs sLaw) (defBody sLaw) (defScope sLaw) .none kV18 dc18 pm18 an18 cd18 ct18, fun s v => .of_eq rfl, fun base _ _ => ?_⟩
  have gTake : Got l.prog w K mg base 1 "_law_take" ["draw", "many"] spTake := ⟨⟨f7, _, ok_take F7 n_len n_int, m7, k7, b7⟩⟩
  have gTop : Got l.prog w K mg base 1 "_law_top" ["w"] spTop := ⟨⟨f8, _, ok_ltop F8, m8, k8, b8⟩⟩
  have gWord : Got l.prog w K mg base 2 "_law_word" ["draw", "w"] spWord := ⟨⟨f11, _, ok_word F11 n_int n_min gTake gTop, m11, k11, b11⟩⟩
  have gPairs : Got l.prog w K mg base 1 "_law_pairs" [] spPairs := ⟨⟨f10, _, ok_pairs F10, m10, k10, b10⟩⟩
  have gDraw : Got l.prog w K mg base 1 "_law_draw" ["script"] (spDraw K) := ⟨⟨f6, _, ok_draw F6 n_int n_abs, m6, k6, b6⟩⟩
  have gLC : Got l.prog w K mg base 1 "_law_compute" ["op", "w", "x", "y"] spLC := ⟨⟨f9, _, ok_lc F9 n_range, m9, k9, b9⟩⟩
  have gE : GotE l.prog w K mg base := ⟨⟨f12, _, ok_expr F12 m12 k12 b12 n_len gTake gWord gPairs, m12, k12, b12⟩⟩
  have gS : Got l.prog w K mg base 7 "_law_statement" ["p"] spS := ⟨⟨f13, _, ok_stmt F13 n_len gTake gE, m13, k13, b13⟩⟩
  have gF : Got l.prog w K mg base 8 "_law_function" ["draw", "blocks", "most"] spF := ⟨⟨f14, _, ok_fun F14 n_len n_range n_tuple gTake gE gS, m14, k14, b14⟩⟩
  have gI : Got l.prog w K mg base 3 "_law_inputs" ["draw", "function"] spI := ⟨⟨f15, _, ok_inputs F15 n_range n_tuple gWord, m15, k15, b15⟩⟩
  have gV : GotV l.prog w K mg base := ⟨⟨f16, _, ok_val F16 m16 k16 b16 n_len gLC, m16, k16, b16⟩⟩
  have gR : Got l.prog w K mg base 6 "_law_run" ["function", "inputs", "fuel"] spR := ⟨⟨f17, _, ok_lrun F17 n_range n_len gV, m17, k17, b17⟩⟩
  have gC : Got l.prog w K mg base 3 "compute" ["op", "w", "x", "y"] spComp := by
    refine ⟨⟨f2, _, ok_compute F2 (PySem.W.mg_of X G aD) (fun op g ho => ?_), m2, k2, b2⟩⟩
    have T : TopF l.prog w K mg base "top" := ⟨⟨f1, _, ok_top F1, m1, k1, b1⟩⟩
    have ho2 := ho
    simp only [ops, List.mem_cons, List.not_mem_nil, or_false, Prod.mk.injEq] at ho2
    rcases ho2 with ⟨rfl, rfl⟩ | ⟨rfl, rfl⟩ | ⟨rfl, rfl⟩ | ⟨rfl, rfl⟩ | ⟨rfl, rfl⟩ | ⟨rfl, rfl⟩ | ⟨rfl, rfl⟩ | ⟨rfl, rfl⟩ | ⟨rfl, rfl⟩ | ⟨rfl, rfl⟩ | ⟨rfl, rfl⟩ | ⟨rfl, rfl⟩
    · exact ⟨f19, _, _, ⟨es, nD, .ref f19, lD, kD, a19, rfl⟩, ok_add T F19, k19, b19⟩
    · exact ⟨f20, _, _, ⟨es, nD, .ref f20, lD, kD, a20, rfl⟩, ok_sub T F20, k20, b20⟩
    · exact ⟨f21, _, _, ⟨es, nD, .ref f21, lD, kD, a21, rfl⟩, ok_mul T F21, k21, b21⟩
    · exact ⟨f22, _, _, ⟨es, nD, .ref f22, lD, kD, a22, rfl⟩, ok_and F22, k22, b22⟩
    · exact ⟨f23, _, _, ⟨es, nD, .ref f23, lD, kD, a23, rfl⟩, ok_or F23, k23, b23⟩
    · exact ⟨f24, _, _, ⟨es, nD, .ref f24, lD, kD, a24, rfl⟩, ok_xor F24, k24, b24⟩
    · exact ⟨f25, _, _, ⟨es, nD, .ref f25, lD, kD, a25, rfl⟩, ok_shl T F25, k25, b25⟩
    · exact ⟨f26, _, _, ⟨es, nD, .ref f26, lD, kD, a26, rfl⟩, ok_shr F26, k26, b26⟩
    · exact ⟨f27, _, _, ⟨es, nD, .ref f27, lD, kD, a27, rfl⟩, ok_less F27, k27, b27⟩
    · exact ⟨f28, _, _, ⟨es, nD, .ref f28, lD, kD, a28, rfl⟩, ok_equal F28, k28, b28⟩
    · exact ⟨f29, _, _, ⟨es, nD, .ref f29, lD, kD, a29, rfl⟩, ok_not T F29, k29, b29⟩
    · exact ⟨f30, _, _, ⟨es, nD, .ref f30, lD, kD, a30, rfl⟩, ok_neg T F30, k30, b30⟩
  have pW : GotW l.prog w K mg base C := ⟨⟨f35, _, ok_wordof F35 TX ⟨a35, i35, k35⟩ b35 gC, ⟨a35, i35, k35⟩, b35⟩⟩
  have pD : GotM l.prog w K mg base C 8 "do_item" ["self", "item"] (spDo C) := ⟨⟨f34, _, ok_item F34 TX pW, ⟨a34, i34, k34⟩, b34⟩⟩
  have pE : GotM l.prog w K mg base C 9 "enter" ["self"] (spEnter C) := ⟨⟨f33, _, ok_enter F33 TX pW pD, ⟨a33, i33, k33⟩, b33⟩⟩
  have pM : GotM l.prog w K mg base C 1 "may_enter" ["self", "fuel"] (spMay C) := ⟨⟨f32, _, ok_may F32 TX, ⟨a32, i32, k32⟩, b32⟩⟩
  have pI : GotP l.prog w K mg base C := ⟨⟨f31, _, ok_init F31 TX n_enumerate ⟨⟨B, f36, _, ok_steps F36 TX, ⟨rdB, gaB⟩, a36, k36, b36, PySem.W.mg_of X G aB⟩⟩, ⟨mkC, a31, i31, kcC⟩, b31, PySem.W.mg_of X G aC⟩⟩
  have gFn : Got l.prog w K mg base 10 "finish" ["play", "fuel"] (spFin C) := ⟨⟨f3, _, ok_finish F3 TX pM pE, m3, k3, b3⟩⟩
  have gN : GotN l.prog w K mg base := ⟨⟨f4, _, ok_run F4 pI gFn, m4, k4, kbn_run F4⟩⟩
  have gG : GotG l.prog w K mg base := ⟨⟨f5, _, ok_trace F5 TX pI pM pE, m5, k5, kbn_trace F5⟩⟩
  exact ok_law F18 n_range n_list n_repr gDraw gTake gF gI gR gN gG
end K0

set_option Elab.async false
set_option linter.all false

open PySem PySem.W PyProof.Rows in
set_option maxRecDepth 100000 in
set_option maxHeartbeats 0 in
theorem PySem.Challenge.cw_leasttiles_k03_runs_of_functions_holds : PySem.Challenge.rw_leasttiles_k03_runs_of_functions.Holds := by
  w_on; o_law; k_head; (case hw => w_witness2)
  k_fill
  refine K0.walkC (l := PySem.Challenge.rw_leasttiles_k03_runs_of_functions) (n := 63) (k := 14) (x := "script") (sp := fun w => K0.spLaw _) rfl (by decide) rfl ⟨rfl, by decide, by decide⟩ (fun w h Y => PySem.W.kIn_of Y) ?F (fun _ _ a ns hl hS => ⟨a, ns, rfl, hS, hl, fun _ => rfl⟩)
  case F =>
    intro w mg fa h KX G hmg
    refine' K0.all_mk KX G hmg ?aD ?lD ?kD ?aP ?lP ?vP ?zP ?aS ?lS ?vS ?zS ?aCE ?aC ?aB ?rdB ?gaB ?a1 ?l1 ?c1 ?k1 ?a2 ?l2 ?c2 ?k2 ?a3 ?l3 ?c3 ?k3 ?a4 ?l4 ?c4 ?k4 ?a5 ?l5 ?c5 ?k5 ?a6 ?l6 ?c6 ?k6 ?a7 ?l7 ?c7 ?k7 ?a8 ?l8 ?c8 ?k8 ?a9 ?l9 ?c9 ?k9 ?a10 ?l10 ?c10 ?k10 ?a11 ?l11 ?c11 ?k11 ?a12 ?l12 ?c12 ?k12 ?a13 ?l13 ?c13 ?k13 ?a14 ?l14 ?c14 ?k14 ?a15 ?l15 ?c15 ?k15 ?a16 ?l16 ?c16 ?k16 ?a17 ?l17 ?c17 ?k17 ?a18 ?l18 ?c18 ?k18 ?a19 ?l19 ?c19 ?k19 ?a20 ?l20 ?c20 ?k20 ?a21 ?l21 ?c21 ?k21 ?a22 ?l22 ?c22 ?k22 ?a23 ?l23 ?c23 ?k23 ?a24 ?l24 ?c24 ?k24 ?a25 ?l25 ?c25 ?k25 ?a26 ?l26 ?c26 ?k26 ?a27 ?l27 ?c27 ?k27 ?a28 ?l28 ?c28 ?k28 ?a29 ?l29 ?c29 ?k29 ?a30 ?l30 ?c30 ?k30 ?a31 ?i31 ?l31 ?c31 ?k31 ?a32 ?i32 ?l32 ?c32 ?k32 ?a33 ?i33 ?l33 ?c33 ?k33 ?a34 ?i34 ?l34 ?c34 ?k34 ?a35 ?i35 ?l35 ?c35 ?k35 ?a36 ?l36 ?c36 ?k36 ?pgC ?hdC ?poC ?saC ?mkC ?kcC ?nWi ?nBl ?nLa ?nWo ?nMe ?nWr ?nEn ?nSt ?z_len ?z_int ?z_abs ?z_range ?z_min ?z_tuple ?z_list ?z_repr ?z_enumerate
    (case aD => k_is)
    (case lD => k_is)
    (case kD => k_keys)
    (case aP => k_is)
    (case lP => k_is)
    (case vP => first | (repeat' (first | exact .nil | refine .cons ⟨_, rfl⟩ ?_)))
    (case zP => decide)
    (case aS => k_is)
    (case lS => k_is)
    (case vS => first | (repeat' (first | exact .nil | refine .cons ⟨_, rfl⟩ ?_)))
    (case zS => decide)
    (case aCE => k_is)
    (case aC => k_is)
    (case aB => k_is)
    (case rdB => k_is)
    (case gaB => k_is)
    (case a1 => k_is)
    (case l1 => k_is)
    (case c1 => k_is)
    (case k1 => k_is)
    (case a2 => k_is)
    (case l2 => k_is)
    (case c2 => k_is)
    (case k2 => k_is)
    (case a3 => k_is)
    (case l3 => k_is)
    (case c3 => k_is)
    (case k3 => k_is)
    (case a4 => k_is)
    (case l4 => k_is)
    (case c4 => k_is)
    (case k4 => k_is)
    (case a5 => k_is)
    (case l5 => k_is)
    (case c5 => k_is)
    (case k5 => k_is)
    (case a6 => k_is)
    (case l6 => k_is)
    (case c6 => k_is)
    (case k6 => k_is)
    (case a7 => k_is)
    (case l7 => k_is)
    (case c7 => k_is)
    (case k7 => k_is)
    (case a8 => k_is)
    (case l8 => k_is)
    (case c8 => k_is)
    (case k8 => k_is)
    (case a9 => k_is)
    (case l9 => k_is)
    (case c9 => k_is)
    (case k9 => k_is)
    (case a10 => k_is)
    (case l10 => k_is)
    (case c10 => k_is)
    (case k10 => k_is)
    (case a11 => k_is)
    (case l11 => k_is)
    (case c11 => k_is)
    (case k11 => k_is)
    (case a12 => k_is)
    (case l12 => k_is)
    (case c12 => k_is)
    (case k12 => k_is)
    (case a13 => k_is)
    (case l13 => k_is)
    (case c13 => k_is)
    (case k13 => k_is)
    (case a14 => k_is)
    (case l14 => k_is)
    (case c14 => k_is)
    (case k14 => k_is)
    (case a15 => k_is)
    (case l15 => k_is)
    (case c15 => k_is)
    (case k15 => k_is)
    (case a16 => k_is)
    (case l16 => k_is)
    (case c16 => k_is)
    (case k16 => k_is)
    (case a17 => k_is)
    (case l17 => k_is)
    (case c17 => k_is)
    (case k17 => k_is)
    (case a18 => k_is)
    (case l18 => k_is)
    (case c18 => k_is)
    (case k18 => k_is)
    (case a19 => k_is)
    (case l19 => k_is)
    (case c19 => k_is)
    (case k19 => k_is)
    (case a20 => k_is)
    (case l20 => k_is)
    (case c20 => k_is)
    (case k20 => k_is)
    (case a21 => k_is)
    (case l21 => k_is)
    (case c21 => k_is)
    (case k21 => k_is)
    (case a22 => k_is)
    (case l22 => k_is)
    (case c22 => k_is)
    (case k22 => k_is)
    (case a23 => k_is)
    (case l23 => k_is)
    (case c23 => k_is)
    (case k23 => k_is)
    (case a24 => k_is)
    (case l24 => k_is)
    (case c24 => k_is)
    (case k24 => k_is)
    (case a25 => k_is)
    (case l25 => k_is)
    (case c25 => k_is)
    (case k25 => k_is)
    (case a26 => k_is)
    (case l26 => k_is)
    (case c26 => k_is)
    (case k26 => k_is)
    (case a27 => k_is)
    (case l27 => k_is)
    (case c27 => k_is)
    (case k27 => k_is)
    (case a28 => k_is)
    (case l28 => k_is)
    (case c28 => k_is)
    (case k28 => k_is)
    (case a29 => k_is)
    (case l29 => k_is)
    (case c29 => k_is)
    (case k29 => k_is)
    (case a30 => k_is)
    (case l30 => k_is)
    (case c30 => k_is)
    (case k30 => k_is)
    (case a31 => k_is)
    (case i31 => k_is)
    (case l31 => k_is)
    (case c31 => k_is)
    (case k31 => k_is)
    (case a32 => k_is)
    (case i32 => k_is)
    (case l32 => k_is)
    (case c32 => k_is)
    (case k32 => k_is)
    (case a33 => k_is)
    (case i33 => k_is)
    (case l33 => k_is)
    (case c33 => k_is)
    (case k33 => k_is)
    (case a34 => k_is)
    (case i34 => k_is)
    (case l34 => k_is)
    (case c34 => k_is)
    (case k34 => k_is)
    (case a35 => k_is)
    (case i35 => k_is)
    (case l35 => k_is)
    (case c35 => k_is)
    (case k35 => k_is)
    (case a36 => k_is)
    (case l36 => k_is)
    (case c36 => k_is)
    (case k36 => k_is)
    (case pgC => k_is)
    (case hdC => k_is)
    (case poC => k_is)
    (case saC => k_is)
    (case mkC => k_is)
    (case kcC => k_is)
    (case nWi => k_is)
    (case nBl => k_is)
    (case nLa => k_is)
    (case nWo => k_is)
    (case nMe => k_is)
    (case nWr => k_is)
    (case nEn => k_is)
    (case nSt => k_is)
    (case z_len => k_is)
    (case z_int => k_is)
    (case z_abs => k_is)
    (case z_range => k_is)
    (case z_min => k_is)
    (case z_tuple => k_is)
    (case z_list => k_is)
    (case z_repr => k_is)
    (case z_enumerate => k_is)
