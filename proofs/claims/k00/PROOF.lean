import PyProof.Rows.All
import Wide.All
import OpenK.AllK
import Wide.FinOn
import HandS.ForMost
import HandS.Codes
import HandS.More
import HandS.IsInst
import HandS.CallLocal
import PySem.Challenge.RW_leasttiles_k00_words_reckoned
set_option Elab.async false
set_option maxHeartbeats 4000000
namespace K0
open PySem PyProof.Rows PySem.W
theorem one_pow (W : Nat) : (1 : Int) * 2 ^ ((W : Int)).toNat = 2 ^ W := by
  rw [Int.toNat_natCast, Int.one_mul]
theorem pow_pos (W : Nat) : (0 : Int) < 2 ^ W := Int.pow_pos (by decide)
theorem pow_cast (W : Nat) : ((2 ^ W : Nat) : Int) = 2 ^ W := by
  rw [Int.natCast_pow]; rfl
theorem pow_le16 {W : Nat} (h : W ≤ 16) : (2 : Int) ^ W ≤ 65536 := by
  have h1 : (2 : Nat) ^ W ≤ 2 ^ 16 := Nat.pow_le_pow_right (by decide) h
  have h2 : ((2 ^ W : Nat) : Int) ≤ ((2 ^ 16 : Nat) : Int) := Int.ofNat_le.mpr h1
  rw [pow_cast, pow_cast] at h2
  exact h2
theorem wrap {z S : Int} (h0 : S ≤ z) (h1 : z < S + S) : z % S = z - S := by
  have e : z = (z - S) + S * 1 := by omega
  rw [e, Int.add_mul_emod_self_left, Int.emod_eq_of_lt (by omega) (by omega)]
  omega
theorem wrap' {z S : Int} (h0 : -S ≤ z) (h1 : z < 0) : z % S = z + S := by
  have e : z = (z + S) + S * (-1) := by omega
  rw [e, Int.add_mul_emod_self_left, Int.emod_eq_of_lt (by omega) (by omega)]
  omega
theorem rest_eq (z S : Int) : z - z / S * S = z % S := by
  rw [Int.emod_def, Int.mul_comm]
/-! bits -/
theorem bits_step (n i : Nat) : n % 2 ^ (i + 1) = n % 2 ^ i + n / 2 ^ i % 2 * 2 ^ i := by
  rw [Nat.mod_pow_succ, Nat.mul_comm]
theorem bit_tb (n i : Nat) : n.testBit i = decide (n / 2 ^ i % 2 = 1) := Nat.testBit_eq_decide_div_mod_eq
theorem bit_of (n i : Nat) : n / 2 ^ i % 2 = if n.testBit i then 1 else 0 := by
  rw [bit_tb]
  have := Nat.mod_two_eq_zero_or_one (n / 2 ^ i)
  rcases this with h | h <;> simp [h]
/-- one of the three ops, bit by bit -/
def hit (op : Nat) (both : Int) : Bool := if op = 0 then both == 2 else if op = 1 then decide (0 < both) else both == 1
def bop (op : Nat) (a b : Nat) : Nat := if op = 0 then a &&& b else if op = 1 then a ||| b else a ^^^ b
def both (x y : Int) (i : Nat) : Int := x / 2 ^ i % 2 + y / 2 ^ i % 2
theorem cast_bit (a i : Nat) : ((a : Nat) : Int) / 2 ^ i % 2 = ((a / 2 ^ i % 2 : Nat) : Int) := by
  rw [Int.natCast_emod, Int.natCast_ediv, pow_cast]; rfl
theorem hit_bit (op a b i : Nat) : hit op (both (a : Int) (b : Int) i) = (bop op a b).testBit i := by
  unfold hit both bop
  rw [cast_bit, cast_bit, bit_of, bit_of]
  by_cases h0 : op = 0
  · simp only [h0, if_true]
    rw [Nat.testBit_and]
    cases a.testBit i <;> cases b.testBit i <;> simp
  · by_cases h1 : op = 1
    · subst h1
      rw [if_neg h0, if_neg h0, if_pos rfl, if_pos rfl, Nat.testBit_or]
      cases a.testBit i <;> cases b.testBit i <;> simp
    · rw [if_neg h0, if_neg h0, if_neg h1, if_neg h1, Nat.testBit_xor]
      cases a.testBit i <;> cases b.testBit i <;> simp
theorem hit_step (op a b i : Nat) : ((bop op a b % 2 ^ (i + 1) : Nat) : Int) = if hit op (both (a : Int) (b : Int) i) = true then ((bop op a b % 2 ^ i : Nat) : Int) + 2 ^ i else ((bop op a b % 2 ^ i : Nat) : Int) := by
  rw [bits_step, bit_of, hit_bit]
  by_cases h : (bop op a b).testBit i = true
  · rw [if_pos h, if_pos h, Int.natCast_add, Nat.one_mul, pow_cast]
  · rw [if_neg h, if_neg h, Nat.zero_mul, Nat.add_zero]
theorem bop_lt {op a b W : Nat} (ha : a < 2 ^ W) (hb : b < 2 ^ W) : bop op a b < 2 ^ W := by
  unfold bop
  split
  · exact Nat.and_lt_two_pow a hb
  · split
    · exact Nat.or_lt_two_pow ha hb
    · exact Nat.xor_lt_two_pow ha hb
theorem bop_mod {op a b W : Nat} (ha : a < 2 ^ W) (hb : b < 2 ^ W) : bop op a b % 2 ^ W = bop op a b := Nat.mod_eq_of_lt (bop_lt ha hb)
theorem and_cast (a b : Nat) : Builtin.bitAnd (a : Int) (b : Int) = ((bop 0 a b : Nat) : Int) := by
  rw [bitAnd_pp (Int.natCast_nonneg _) (Int.natCast_nonneg _)]; rfl
theorem or_cast (a b : Nat) : Builtin.bitOr (a : Int) (b : Int) = ((bop 1 a b : Nat) : Int) := by
  rw [Bits.bitOr_pp (Int.natCast_nonneg _) (Int.natCast_nonneg _)]; rfl
theorem xor_cast (a b : Nat) : Builtin.bitXor (a : Int) (b : Int) = ((bop 2 a b : Nat) : Int) := by
  rw [Bits.bitXor_pp (Int.natCast_nonneg _) (Int.natCast_nonneg _)]; rfl
theorem not_cast {a W : Nat} (h : a < 2 ^ W) : Builtin.bitXor (a : Int) (2 ^ W - 1) = 2 ^ W - 1 - (a : Int) := by
  rw [bitXor_and, kbt_mask, Int.emod_eq_of_lt (Int.natCast_nonneg _) (by rw [← pow_cast]; exact Int.ofNat_lt.mpr h)]
  omega
end K0

set_option Elab.async false
set_option linter.all false
set_option maxRecDepth 100000
set_option maxHeartbeats 4000000
namespace K0
open PySem L2
def tp (i : Nat) : Stmt := PySem.Challenge.pw_leasttiles_k00_words_reckoned.main.body.getD i (.Pass ⟨0, 0, 0, 0⟩)
abbrev sTop : Stmt := tp 3
abbrev sAdd : Stmt := tp 4
abbrev sSub : Stmt := tp 5
abbrev sMul : Stmt := tp 6
abbrev sAnd : Stmt := tp 7
abbrev sOr : Stmt := tp 8
abbrev sXor : Stmt := tp 9
abbrev sShl : Stmt := tp 10
abbrev sShr : Stmt := tp 11
abbrev sLess : Stmt := tp 12
abbrev sEqual : Stmt := tp 13
abbrev sNot : Stmt := tp 14
abbrev sNeg : Stmt := tp 15
abbrev sCompute : Stmt := tp 17
abbrev sDraw : Stmt := tp 19
abbrev sTake : Stmt := tp 20
abbrev sLTop : Stmt := tp 21
abbrev sLComp : Stmt := tp 22
abbrev sPairs : Stmt := tp 23
abbrev sWord : Stmt := tp 24
abbrev sLaw : Stmt := tp 32
/-! the answers -/
abbrev G := Nat → Nat → Nat → Int
def gAdd : G := fun W a b => ((a : Int) + b) % 2 ^ W
def gSub : G := fun W a b => ((a : Int) - b) % 2 ^ W
def gMul : G := fun W a b => ((a : Int) * b) % 2 ^ W
def gAnd : G := fun _ a b => ((bop 0 a b : Nat) : Int)
def gOr : G := fun _ a b => ((bop 1 a b : Nat) : Int)
def gXor : G := fun _ a b => ((bop 2 a b : Nat) : Int)
def gShl : G := fun W a b => if (W : Int) ≤ b then 0 else ((a : Int) * 2 ^ b) % 2 ^ W
def gShr : G := fun W a b => if (W : Int) ≤ b then 0 else (a : Int) / 2 ^ b
def gLess : G := fun _ a b => if (a : Int) < b then 1 else 0
def gEqual : G := fun _ a b => if (a : Int) = b then 1 else 0
def gNot : G := fun W a _ => 2 ^ W - 1 - (a : Int)
def gNeg : G := fun W a _ => (-(a : Int)) % 2 ^ W
def ops : List (Str × G) := [("add", gAdd), ("sub", gSub), ("mul", gMul), ("and", gAnd), ("or", gOr), ("xor", gXor), ("shl", gShl), ("shr", gShr), ("less", gLess), ("equal", gEqual), ("not", gNot), ("neg", gNeg)]
theorem ops_nd : (ops.map (·.1)).Nodup := by decide +kernel
theorem pick {op op' : Str} {g g' : G} (h : (op, g) ∈ ops) (k : Nat) (hk : ops[k]? = some (op', g')) (e : op = op') : g = g' := by
  subst e
  obtain ⟨i, hi⟩ := List.mem_iff_getElem?.mp h
  have e1 : (ops.map (·.1))[i]? = some op := by rw [List.getElem?_map, hi]; rfl
  have e2 : (ops.map (·.1))[k]? = some op := by rw [List.getElem?_map, hk]; rfl
  have hik : i = k := nodup_ix ops_nd e1 e2
  subst hik
  rw [hi] at hk
  exact (Prod.mk.inj (Option.some.inj hk)).2
/-! promises -/
def spTop : Sp := fun vs H Q _ => ∃ W : Nat, vs = [.int W] ∧ W ≤ 16 ∧ Q (.int (2 ^ W - 1)) H
def spAct (g : G) : Sp := fun vs H Q _ => ∃ W a b : Nat, vs = [.int W, .int a, .int b] ∧ 1 ≤ W ∧ W ≤ 16 ∧ a < 2 ^ W ∧ b < 2 ^ W ∧ Q (.int (g W a b)) H
section
variable {P : Program} {w : World} {K : PySem.W.Frag} {mg : Str → Option Value} {base : Heap}
theorem scTop : FnScope ["w"] ["w"] (defScope sTop) := ⟨rfl, rfl, rfl, by decide +kernel, rfl, by decide +kernel, by decide +kernel⟩
theorem ok_top {f : Addr} {fd : FuncData} (F : Fun K "top" "top" sTop f fd) : FnOk P w K mg base CX0 1 f fd ["w"] spTop := by
  refine F.ok scTop (fun vs H Q E h => ?_) (fun cdv A outer s H vs Q E hr h => ?_)
  · obtain ⟨W, rfl, _⟩ := h
    rfl
  · obtain ⟨W, rfl, hW, q⟩ := h
    refine ⟨_, pss_one (ps_ret (pe_op op_sub (pe_op op_shl pe_int (pv 0)) pe_int)), ?_⟩
    refine ⟨_, rfl, 1, W, rfl, rfl, ⟨by omega, by omega, by decide⟩, _, _, rfl, rfl, ?_⟩
    rw [one_pow]
    exact q
theorem scLTop : FnScope ["w"] ["w"] (defScope sLTop) := ⟨rfl, rfl, rfl, by decide +kernel, rfl, by decide +kernel, by decide +kernel⟩
theorem ok_ltop {f : Addr} {fd : FuncData} (F : Fun K "_law_top" "_law_top" sLTop f fd) : FnOk P w K mg base CX0 1 f fd ["w"] spTop := by
  refine F.ok scLTop (fun vs H Q E h => ?_) (fun cdv A outer s H vs Q E hr h => ?_)
  · obtain ⟨W, rfl, _⟩ := h
    rfl
  · obtain ⟨W, rfl, hW, q⟩ := h
    refine ⟨_, pss_one (ps_ret (pe_op op_sub (pe_op op_shl pe_int (pv 0)) pe_int)), ?_⟩
    refine ⟨_, rfl, 1, W, rfl, rfl, ⟨by omega, by omega, by decide⟩, _, _, rfl, rfl, ?_⟩
    rw [one_pow]
    exact q
theorem scAdd : FnScope ["w", "x", "y"] ["w", "x", "y"] (defScope sAdd) := ⟨rfl, rfl, rfl, by decide +kernel, rfl, by decide +kernel, by decide +kernel⟩
theorem scSub : FnScope ["w", "x", "y"] ["w", "x", "y"] (defScope sSub) := ⟨rfl, rfl, rfl, by decide +kernel, rfl, by decide +kernel, by decide +kernel⟩
theorem scMul : FnScope ["w", "x", "y"] ["w", "x", "y"] (defScope sMul) := ⟨rfl, rfl, rfl, by decide +kernel, rfl, by decide +kernel, by decide +kernel⟩
theorem scAnd : FnScope ["_", "x", "y"] ["_", "x", "y"] (defScope sAnd) := ⟨rfl, rfl, rfl, by decide +kernel, rfl, by decide +kernel, by decide +kernel⟩
theorem scOr : FnScope ["_", "x", "y"] ["_", "x", "y"] (defScope sOr) := ⟨rfl, rfl, rfl, by decide +kernel, rfl, by decide +kernel, by decide +kernel⟩
theorem scXor : FnScope ["_", "x", "y"] ["_", "x", "y"] (defScope sXor) := ⟨rfl, rfl, rfl, by decide +kernel, rfl, by decide +kernel, by decide +kernel⟩
theorem scShl : FnScope ["w", "x", "y"] ["w", "x", "y"] (defScope sShl) := ⟨rfl, rfl, rfl, by decide +kernel, rfl, by decide +kernel, by decide +kernel⟩
theorem scShr : FnScope ["w", "x", "y"] ["w", "x", "y"] (defScope sShr) := ⟨rfl, rfl, rfl, by decide +kernel, rfl, by decide +kernel, by decide +kernel⟩
theorem scLess : FnScope ["_", "x", "y"] ["_", "x", "y"] (defScope sLess) := ⟨rfl, rfl, rfl, by decide +kernel, rfl, by decide +kernel, by decide +kernel⟩
theorem scEqual : FnScope ["_", "x", "y"] ["_", "x", "y"] (defScope sEqual) := ⟨rfl, rfl, rfl, by decide +kernel, rfl, by decide +kernel, by decide +kernel⟩
theorem scNot : FnScope ["w", "x", "_"] ["w", "x", "_"] (defScope sNot) := ⟨rfl, rfl, rfl, by decide +kernel, rfl, by decide +kernel, by decide +kernel⟩
theorem scNeg : FnScope ["w", "x", "_"] ["w", "x", "_"] (defScope sNeg) := ⟨rfl, rfl, rfl, by decide +kernel, rfl, by decide +kernel, by decide +kernel⟩
/-- top as it is called -/
structure TopF (P : Program) (w : World) (K : PySem.W.Frag) (mg : Str → Option Value) (base : Heap) (x : Str) : Prop where
  ex : ∃ (f : Addr) (fd : FuncData), FnOk P w K mg base CX0 1 f fd ["w"] spTop ∧ mg x = some (.ref f) ∧ PySem.W.keepIn K (.ref f) = true ∧ Binds K fd ["w"] []
section
variable (T : TopF P w K mg base "top")
include T
theorem ok_add {f : Addr} {fd : FuncData} (F : Fun K "_add" "_add" sAdd f fd) : FnOk P w K mg base CX0 2 f fd ["w", "x", "y"] (spAct gAdd) := by
  obtain ⟨ft, fdt, GT, mgT, kT, bT⟩ := T.ex
  refine F.ok scAdd (fun vs H Q E h => ?_) (fun cdv A outer s H vs Q E hr h => ?_)
  · obtain ⟨W, a, b, rfl, _⟩ := h
    rfl
  · obtain ⟨W, a, b, rfl, h1, hW, ha, hb, q⟩ := h
    refine ⟨_, pss_one (ps_ret (pe_op op_and (pe_op op_add (pv 1) (pv 2)) (pe_call GT hr (by rfl) mgT kT bT .nil pass0 (pa_cons (pv 0) pa_nil)))), ?_⟩
    refine ⟨_, rfl, _, rfl, a, b, rfl, rfl, _, rfl, W, rfl, hW, _, _, rfl, rfl, ?_⟩
    show Q (V.int (Builtin.bitAnd _ _)) H
    rw [PySem.W.kbt_mask]
    exact q
theorem ok_sub {f : Addr} {fd : FuncData} (F : Fun K "_sub" "_sub" sSub f fd) : FnOk P w K mg base CX0 2 f fd ["w", "x", "y"] (spAct gSub) := by
  obtain ⟨ft, fdt, GT, mgT, kT, bT⟩ := T.ex
  refine F.ok scSub (fun vs H Q E h => ?_) (fun cdv A outer s H vs Q E hr h => ?_)
  · obtain ⟨W, a, b, rfl, _⟩ := h
    rfl
  · obtain ⟨W, a, b, rfl, h1, hW, ha, hb, q⟩ := h
    refine ⟨_, pss_one (ps_ret (pe_op op_and (pe_op op_sub (pv 1) (pv 2)) (pe_call GT hr (by rfl) mgT kT bT .nil pass0 (pa_cons (pv 0) pa_nil)))), ?_⟩
    refine ⟨_, rfl, _, rfl, a, b, rfl, rfl, _, rfl, W, rfl, hW, _, _, rfl, rfl, ?_⟩
    show Q (V.int (Builtin.bitAnd _ _)) H
    rw [PySem.W.kbt_mask]
    exact q
theorem below {a W : Nat} (h : a < 2 ^ W) (hW : W ≤ 16) : (a : Int) < 65536 := by
  have h1 : (2 : Nat) ^ W ≤ 2 ^ 16 := Nat.pow_le_pow_right (by decide) hW
  have h2 : (2 : Nat) ^ 16 = 65536 := by decide
  omega
theorem ok_mul {f : Addr} {fd : FuncData} (F : Fun K "_mul" "_mul" sMul f fd) : FnOk P w K mg base CX0 2 f fd ["w", "x", "y"] (spAct gMul) := by
  obtain ⟨ft, fdt, GT, mgT, kT, bT⟩ := T.ex
  refine F.ok scMul (fun vs H Q E h => ?_) (fun cdv A outer s H vs Q E hr h => ?_)
  · obtain ⟨W, a, b, rfl, _⟩ := h
    rfl
  · obtain ⟨W, a, b, rfl, h1, hW, ha, hb, q⟩ := h
    have la := below T ha hW
    refine ⟨_, pss_one (ps_ret (pe_op op_and (pe_op op_mul (pv 1) (pv 2)) (pe_call GT hr (by rfl) mgT kT bT .nil pass0 (pa_cons (pv 0) pa_nil)))), ?_⟩
    refine ⟨_, rfl, _, rfl, a, b, rfl, rfl, .inl ⟨by omega, by omega⟩, _, rfl, W, rfl, hW, _, _, rfl, rfl, ?_⟩
    show Q (V.int (Builtin.bitAnd _ _)) H
    rw [PySem.W.kbt_mask]
    exact q
theorem ok_not {f : Addr} {fd : FuncData} (F : Fun K "_not" "_not" sNot f fd) : FnOk P w K mg base CX0 2 f fd ["w", "x", "_"] (spAct gNot) := by
  obtain ⟨ft, fdt, GT, mgT, kT, bT⟩ := T.ex
  refine F.ok scNot (fun vs H Q E h => ?_) (fun cdv A outer s H vs Q E hr h => ?_)
  · obtain ⟨W, a, b, rfl, _⟩ := h
    rfl
  · obtain ⟨W, a, b, rfl, h1, hW, ha, hb, q⟩ := h
    refine ⟨_, pss_one (ps_ret (pe_op op_xor (pv 1) (pe_call GT hr (by rfl) mgT kT bT .nil pass0 (pa_cons (pv 0) pa_nil)))), ?_⟩
    refine ⟨_, rfl, _, rfl, W, rfl, hW, _, _, rfl, rfl, ?_⟩
    show Q (V.int (Builtin.bitXor _ _)) H
    rw [not_cast ha]
    exact q
theorem ok_neg {f : Addr} {fd : FuncData} (F : Fun K "_neg" "_neg" sNeg f fd) : FnOk P w K mg base CX0 2 f fd ["w", "x", "_"] (spAct gNeg) := by
  obtain ⟨ft, fdt, GT, mgT, kT, bT⟩ := T.ex
  refine F.ok scNeg (fun vs H Q E h => ?_) (fun cdv A outer s H vs Q E hr h => ?_)
  · obtain ⟨W, a, b, rfl, _⟩ := h
    rfl
  · obtain ⟨W, a, b, rfl, h1, hW, ha, hb, q⟩ := h
    refine ⟨_, pss_one (ps_ret (pe_op op_and (pe_un un_neg (pv 1)) (pe_call GT hr (by rfl) mgT kT bT .nil pass0 (pa_cons (pv 0) pa_nil)))), ?_⟩
    refine ⟨_, rfl, _, rfl, _, rfl, W, rfl, hW, _, _, rfl, rfl, ?_⟩
    show Q (V.int (Builtin.bitAnd _ _)) H
    rw [PySem.W.kbt_mask]
    exact q
theorem ok_shl {f : Addr} {fd : FuncData} (F : Fun K "_shl" "_shl" sShl f fd) : FnOk P w K mg base CX0 2 f fd ["w", "x", "y"] (spAct gShl) := by
  obtain ⟨ft, fdt, GT, mgT, kT, bT⟩ := T.ex
  refine F.ok scShl (fun vs H Q E h => ?_) (fun cdv A outer s H vs Q E hr h => ?_)
  · obtain ⟨W, a, b, rfl, _⟩ := h
    rfl
  · obtain ⟨W, a, b, rfl, h1, hW, ha, hb, q⟩ := h
    have la := below T ha hW
    have lb := below T hb hW
    refine ⟨_, pss_cons (ps_if (pt_cmpR op_ge (pv 2) (pv 0) (nomark _)) (pss_one (ps_ret pe_int)) pss_nil)
      (pss_one (ps_ret (pe_op op_and (pe_op op_shl (pv 1) (pv 2)) (pe_call GT hr (by rfl) mgT kT bT .nil pass0 (pa_cons (pv 0) pa_nil))))), ?_⟩
    refine ⟨_, rfl, _, rfl, b, W, rfl, rfl, _, rfl, ite2 (fun e => ?_) (fun e => ?_)⟩
    · have e' := of_decide_eq_true e
      unfold gShl at q
      rw [if_pos e'] at q
      exact q
    · have e' : ¬ ((W : Int) ≤ b) := fun z => e (decide_eq_true z)
      refine ⟨_, rfl, _, rfl, a, b, rfl, rfl, ⟨by omega, by omega, by omega⟩, _, rfl, W, rfl, hW, _, _, rfl, rfl, ?_⟩
      show Q (V.int (Builtin.bitAnd _ _)) H
      rw [PySem.W.kbt_mask, Int.toNat_natCast]
      unfold gShl at q
      rw [if_neg e'] at q
      exact q
end
theorem ok_and {f : Addr} {fd : FuncData} (F : Fun K "_and" "_and" sAnd f fd) : FnOk P w K mg base CX0 2 f fd ["_", "x", "y"] (spAct gAnd) := by
  refine F.ok scAnd (fun vs H Q E h => ?_) (fun cdv A outer s H vs Q E hr h => ?_)
  · obtain ⟨W, a, b, rfl, _⟩ := h
    rfl
  · obtain ⟨W, a, b, rfl, h1, hW, ha, hb, q⟩ := h
    refine ⟨_, pss_one (ps_ret (pe_op op_and (pv 1) (pv 2))), ?_⟩
    refine ⟨_, rfl, _, rfl, a, b, rfl, rfl, ?_⟩
    show Q (V.int (Builtin.bitAnd _ _)) H
    rw [and_cast]
    exact q
theorem ok_or {f : Addr} {fd : FuncData} (F : Fun K "_or" "_or" sOr f fd) : FnOk P w K mg base CX0 2 f fd ["_", "x", "y"] (spAct gOr) := by
  refine F.ok scOr (fun vs H Q E h => ?_) (fun cdv A outer s H vs Q E hr h => ?_)
  · obtain ⟨W, a, b, rfl, _⟩ := h
    rfl
  · obtain ⟨W, a, b, rfl, h1, hW, ha, hb, q⟩ := h
    refine ⟨_, pss_one (ps_ret (pe_op op_or (pv 1) (pv 2))), ?_⟩
    refine ⟨_, rfl, _, rfl, a, b, rfl, rfl, ?_⟩
    show Q (V.int (Builtin.bitOr _ _)) H
    rw [or_cast]
    exact q
theorem ok_xor {f : Addr} {fd : FuncData} (F : Fun K "_xor" "_xor" sXor f fd) : FnOk P w K mg base CX0 2 f fd ["_", "x", "y"] (spAct gXor) := by
  refine F.ok scXor (fun vs H Q E h => ?_) (fun cdv A outer s H vs Q E hr h => ?_)
  · obtain ⟨W, a, b, rfl, _⟩ := h
    rfl
  · obtain ⟨W, a, b, rfl, h1, hW, ha, hb, q⟩ := h
    refine ⟨_, pss_one (ps_ret (pe_op op_xor (pv 1) (pv 2))), ?_⟩
    refine ⟨_, rfl, _, rfl, a, b, rfl, rfl, ?_⟩
    show Q (V.int (Builtin.bitXor _ _)) H
    rw [xor_cast]
    exact q
theorem ok_shr {f : Addr} {fd : FuncData} (F : Fun K "_shr" "_shr" sShr f fd) : FnOk P w K mg base CX0 2 f fd ["w", "x", "y"] (spAct gShr) := by
  refine F.ok scShr (fun vs H Q E h => ?_) (fun cdv A outer s H vs Q E hr h => ?_)
  · obtain ⟨W, a, b, rfl, _⟩ := h
    rfl
  · obtain ⟨W, a, b, rfl, h1, hW, ha, hb, q⟩ := h
    refine ⟨_, pss_cons (ps_if (pt_cmpR op_ge (pv 2) (pv 0) (nomark _)) (pss_one (ps_ret pe_int)) pss_nil)
      (pss_one (ps_ret (pe_op op_shr (pv 1) (pv 2)))), ?_⟩
    refine ⟨_, rfl, _, rfl, b, W, rfl, rfl, _, rfl, ite2 (fun e => ?_) (fun e => ?_)⟩
    · have e' := of_decide_eq_true e
      unfold gShr at q
      rw [if_pos e'] at q
      exact q
    · have e' : ¬ ((W : Int) ≤ b) := fun z => e (decide_eq_true z)
      refine ⟨_, rfl, _, rfl, a, b, rfl, rfl, by omega, ?_⟩
      show Q (V.int ((a : Int) / 2 ^ ((b : Int)).toNat)) H
      rw [Int.toNat_natCast]
      unfold gShr at q
      rw [if_neg e'] at q
      exact q
theorem ok_less {f : Addr} {fd : FuncData} (F : Fun K "_less" "_less" sLess f fd) : FnOk P w K mg base CX0 2 f fd ["_", "x", "y"] (spAct gLess) := by
  refine F.ok scLess (fun vs H Q E h => ?_) (fun cdv A outer s H vs Q E hr h => ?_)
  · obtain ⟨W, a, b, rfl, _⟩ := h
    rfl
  · obtain ⟨W, a, b, rfl, h1, hW, ha, hb, q⟩ := h
    refine ⟨_, pss_one (ps_ret (pe_ifExp (pt_cmpR op_lt (pv 1) (pv 2) (nomark _)) pe_int pe_int)), ?_⟩
    refine ⟨_, rfl, _, rfl, a, b, rfl, rfl, _, rfl, ite2 (fun e => ?_) (fun e => ?_)⟩
    · have e' := of_decide_eq_true e
      unfold gLess at q
      rw [if_pos e'] at q
      exact q
    · have e' : ¬ ((a : Int) < b) := fun z => e (decide_eq_true z)
      unfold gLess at q
      rw [if_neg e'] at q
      exact q
theorem ok_equal {f : Addr} {fd : FuncData} (F : Fun K "_equal" "_equal" sEqual f fd) : FnOk P w K mg base CX0 2 f fd ["_", "x", "y"] (spAct gEqual) := by
  refine F.ok scEqual (fun vs H Q E h => ?_) (fun cdv A outer s H vs Q E hr h => ?_)
  · obtain ⟨W, a, b, rfl, _⟩ := h
    rfl
  · obtain ⟨W, a, b, rfl, h1, hW, ha, hb, q⟩ := h
    refine ⟨_, pss_one (ps_ret (pe_ifExp (pt_cmpR op_eq (pv 1) (pv 2) (nomark _)) pe_int pe_int)), ?_⟩
    refine ⟨_, rfl, _, rfl, rfl, _, rfl, ite2 (fun e => ?_) (fun e => ?_)⟩
    · have e' : (a : Int) = b := V.int.inj (of_decide_eq_true e)
      unfold gEqual at q
      rw [if_pos e'] at q
      exact q
    · have e' : ¬ ((a : Int) = b) := fun z => e (decide_eq_true (by rw [z]))
      unfold gEqual at q
      rw [if_neg e'] at q
      exact q
end
end K0

set_option Elab.async false
set_option linter.all false
set_option maxRecDepth 100000
set_option maxHeartbeats 4000000
namespace K0
open PySem L2
theorem and_val {A B : TT} {σ : St} {H : Hp} {cA cB : Bool} (hA : ∀ Q : Bool → Hp → Prop, Q cA H → A σ H Q) (hB : ∀ Q : Bool → Hp → Prop, Q cB H → B σ H Q) : ∀ Q : Bool → Hp → Prop, Q (cA && cB) H → tAnd A B σ H Q := by
  intro Q q
  refine hA _ ?_
  cases cA with
  | true => exact iteT (hB _ q)
  | false => exact iteF q
theorem or_val {A B : TT} {σ : St} {H : Hp} {cA cB : Bool} (hA : ∀ Q : Bool → Hp → Prop, Q cA H → A σ H Q) (hB : ∀ Q : Bool → Hp → Prop, Q cB H → B σ H Q) : ∀ Q : Bool → Hp → Prop, Q (cA || cB) H → tOr A B σ H Q := by
  intro Q q
  refine hA _ ?_
  cases cA with
  | true => exact iteT q
  | false => exact iteF (hB _ q)
theorem str_of {a b : Str} (e : decide (V.str a = V.str b) = true) : a = b := V.str.inj (of_decide_eq_true e)
theorem str_ne {a b : Str} (e : ¬ decide (V.str a = V.str b) = true) : a ≠ b := fun z => e (decide_eq_true (by rw [z]))
/-- the three ops that go bit by bit -/
def Bitwise (op : Str) (c : Nat) : Prop := (op = "and" ∧ c = 0) ∨ (op = "or" ∧ c = 1) ∨ (op = "xor" ∧ c = 2)
theorem n1 : ¬ ("and" : Str) = "or" := by decide +kernel
theorem n2 : ¬ ("and" : Str) = "xor" := by decide +kernel
theorem n3 : ¬ ("or" : Str) = "xor" := by decide +kernel
theorem dS {a b : Str} (h : ¬ a = b) : decide (V.str a = V.str b) = false := decide_eq_false fun z => h (V.str.inj z)
theorem dT {a : Str} : decide (V.str a = V.str a) = true := decide_eq_true rfl
theorem dI {i j : Int} : decide (V.int i = V.int j) = (i == j) := dec_int
theorem hit_val {op : Str} {c : Nat} (h : Bitwise op c) (z : Int) :
    ((decide (V.str op = V.str "and") && decide (V.int z = V.int 2)) || ((decide (V.str op = V.str "or") && decide ((0 : Int) < z)) || (decide (V.str op = V.str "xor") && decide (V.int z = V.int 1)))) = hit c z := by
  rcases h with ⟨rfl, rfl⟩ | ⟨rfl, rfl⟩ | ⟨rfl, rfl⟩
  · rw [dT, dS n1, dS n2, dI]
    simp [hit]
  · rw [dT, dS n3, dS (fun q => n1 q.symm)]
    simp [hit]
  · rw [dT, dS (fun q => n2 q.symm), dS (fun q => n3 q.symm), dI]
    simp [hit]
    rfl
theorem bit_ops {op : Str} {g : G} (h : (op, g) ∈ ops) (e : inV (.str op) [.str "and", .str "or", .str "xor"] = true) : ∃ c, Bitwise op c ∧ g = fun _ a b => ((bop c a b : Nat) : Int) := by
  have e' : op = "and" ∨ op = "or" ∨ op = "xor" := by
    have q : (("and" : Str) == op || (("or" : Str) == op || (("xor" : Str) == op || false))) = true := e
    simp only [Bool.or_eq_true, beq_iff_eq, Bool.false_eq_true, or_false] at q
    rcases q with q | q | q
    · exact .inl q.symm
    · exact .inr (.inl q.symm)
    · exact .inr (.inr q.symm)
  rcases e' with q | q | q
  · exact ⟨0, .inl ⟨q, rfl⟩, pick h 3 rfl q⟩
  · exact ⟨1, .inr (.inl ⟨q, rfl⟩), pick h 4 rfl q⟩
  · exact ⟨2, .inr (.inr ⟨q, rfl⟩), pick h 5 rfl q⟩
/-! arithmetic of the answers -/
theorem wlt {a W : Nat} (h : a < 2 ^ W) : (a : Int) < 2 ^ W := by
  rw [← pow_cast]
  exact Int.ofNat_lt.mpr h
theorem add_lo {W a b : Nat} (h : (a : Int) + b < 2 ^ W) : gAdd W a b = (a : Int) + b := Int.emod_eq_of_lt (by omega) h
theorem add_hi {W a b : Nat} (ha : a < 2 ^ W) (hb : b < 2 ^ W) (h : ¬ (a : Int) + b < 2 ^ W) : gAdd W a b = (a : Int) + b - 2 ^ W := by
  have h1 := wlt ha
  have h2 := wlt hb
  exact wrap (by omega) (by omega)
theorem sub_hi {W a b : Nat} (ha : a < 2 ^ W) (h : (b : Int) ≤ a) : gSub W a b = (a : Int) - b := by
  have h1 := wlt ha
  exact Int.emod_eq_of_lt (by omega) (by omega)
theorem sub_lo {W a b : Nat} (hb : b < 2 ^ W) (h : ¬ (b : Int) ≤ a) : gSub W a b = (a : Int) - b + 2 ^ W := by
  have h2 := wlt hb
  exact wrap' (by omega) (by omega)
theorem neg_0 {W a : Nat} (h : (a : Int) = 0) (b : Nat) : gNeg W a b = 0 := by
  unfold gNeg
  rw [h]
  exact Int.zero_emod _
theorem neg_1 {W a : Nat} (ha : a < 2 ^ W) (h : ¬ (a : Int) = 0) (b : Nat) : gNeg W a b = 2 ^ W - (a : Int) := by
  have h1 := wlt ha
  have e : gNeg W a b = -(a : Int) + 2 ^ W := wrap' (by omega) (by omega)
  omega
def spLC : Sp := fun vs H Q _ => ∃ (op : Str) (g : G) (W a b : Nat), vs = [.str op, .int W, .int a, .int b] ∧ (op, g) ∈ ops ∧ 1 ≤ W ∧ W ≤ 16 ∧ a < 2 ^ W ∧ b < 2 ^ W ∧ ∀ H', Same H H' → Q (.int (g W a b)) H'
theorem last_neg {op : Str} {g : G} (h : (op, g) ∈ ops) (h0 : op ≠ "add") (h1 : op ≠ "sub") (h2 : op ≠ "mul") (h3 : ¬ inV (.str op) [.str "and", .str "or", .str "xor"] = true) (h6 : op ≠ "shl") (h7 : op ≠ "shr") (h8 : op ≠ "less") (h9 : op ≠ "equal") (h10 : op ≠ "not") : g = gNeg := by
  have e : op = "neg" := by
    have q := List.mem_map_of_mem (f := (·.1)) h
    have q2 : op ∈ (["add", "sub", "mul", "and", "or", "xor", "shl", "shr", "less", "equal", "not", "neg"] : List Str) := q
    simp only [List.mem_cons, List.not_mem_nil, or_false] at q2
    rcases q2 with q | q | q | q | q | q | q | q | q | q | q | q
    · exact absurd q h0
    · exact absurd q h1
    · exact absurd q h2
    · subst q; exact absurd (by decide +kernel) h3
    · subst q; exact absurd (by decide +kernel) h3
    · subst q; exact absurd (by decide +kernel) h3
    · exact absurd q h6
    · exact absurd q h7
    · exact absurd q h8
    · exact absurd q h9
    · exact absurd q h10
    · exact q
  exact pick h 11 rfl e
end K0

set_option Elab.async false
set_option linter.all false
set_option maxRecDepth 100000
set_option maxHeartbeats 400000
namespace K0
open PySem L2
theorem gName_go {i : Nat} {v : V} {σ : St} {H : Hp} {Q : St → Hp → Prop} (h : Q (σ.set i (some v)) H) : gName i v σ H Q := h
theorem nx_go {t : St → Hp → Prop} {r : VK} {b c : St → Hp → Prop} {σ : St} {H : Hp} (h : t σ H) : ({ nx := t, rt := r, bk := b, ct := c } : Ends).nx σ H := h
theorem tIfS_val {c : TT} {t u : TS} {D : Ends} {σ : St} {H : Hp} {b : Bool} (hc : ∀ Q : Bool → Hp → Prop, Q b H → c σ H Q) (h : if b = true then t D σ H else u D σ H) : tIfS c t u D σ H := hc _ h
theorem op_shl1 {X : Cx} : OpR X (binaryOp .LShift) (fun x y H Q => ∃ W : Nat, x = .int 1 ∧ y = .int W ∧ W ≤ 16 ∧ Q (.int (2 ^ W)) H) := by
  intro pins s σ H x y v u Q I rx ry h
  obtain ⟨W, e1, e2, hW, q⟩ := h
  refine op_shl pins s σ H x y v u Q I rx ry ⟨1, W, e1, e2, ⟨by omega, by omega, by decide⟩, ?_⟩
  show Q (.int (1 * 2 ^ ((W : Int)).toNat)) H
  rw [one_pow]
  exact q
section
variable {P : Program} {w : World} {K : PySem.W.Frag} {mg : Str → Option Value} {base : Heap}
theorem scLC : FnScope ["op", "w", "x", "y", "size", "found", "k", "both"] ["op", "w", "x", "y"] (defScope sLComp) := ⟨rfl, rfl, rfl, by decide +kernel, rfl, by decide +kernel, by decide +kernel⟩
theorem ok_lc {f : Addr} {fd : FuncData} (F : Fun K "_law_compute" "_law_compute" sLComp f fd) (mr : mg "range" = none) : FnOk P w K mg base CX0 1 f fd ["op", "w", "x", "y"] spLC := by
  refine F.ok scLC (fun vs H Q E h => ?_) (fun cdv A outer s H vs Q E hr h => ?_)
  · obtain ⟨op, g, W, a, b, rfl, _⟩ := h
    rfl
  · obtain ⟨op, g, W, a, b, rfl, ho, h1, hW, ha, hb, q⟩ := h
    have qs := q H (Same.refl H)
    have la := wlt ha
    have lb := wlt hb
    have l16 := pow_le16 hW
    have lp := pow_pos W
    have nd := scLC.nd
    refine ⟨_, pss_cons (ps_set (i := 4) nd rfl (.inl rfl) (pe_op op_shl1 pe_int (pv 1)))
      (pss_cons (ps_if (pt_cmpR op_eq (pv 0) pe_str (nomark _)) (pss_one (ps_ret (pe_ifExp (pt_cmpR op_lt (pe_op op_add (pv 2) (pv 3)) (pv 4) (nomark _)) (pe_op op_add (pv 2) (pv 3)) (pe_op op_sub (pe_op op_add (pv 2) (pv 3)) (pv 4))))) pss_nil)
      (pss_cons (ps_if (pt_cmpR op_eq (pv 0) pe_str (nomark _)) (pss_one (ps_ret (pe_ifExp (pt_cmpR op_ge (pv 2) (pv 3) (nomark _)) (pe_op op_sub (pv 2) (pv 3)) (pe_op op_add (pe_op op_sub (pv 2) (pv 3)) (pv 4))))) pss_nil)
      (pss_cons (ps_if (pt_cmpR op_eq (pv 0) pe_str (nomark _)) (pss_one (ps_ret (pe_op op_sub (pe_op op_mul (pv 2) (pv 3)) (pe_op op_mul (pe_op op_fdiv (pe_op op_mul (pv 2) (pv 3)) (pv 4)) (pv 4))))) pss_nil)
      (pss_cons (ps_if (pt_cmpR op_in_seq (pv 0) (pe_lst (pa_cons pe_str (pa_cons pe_str (pa_cons pe_str pa_nil)))) rfl)
        (pss_cons (ps_set (i := 5) nd rfl (.inl rfl) pe_int)
        (pss_cons (ps_for PassesOwn.never rfl (pi_range1 (by rfl) mr (pa_cons (pv 1) pa_nil)) (pg_name (i := 6) nd rfl (.inl rfl))
          (pss_cons (ps_set (i := 7) nd rfl (.inl rfl) (pe_op op_add (pe_op op_mod (pe_op op_fdiv (pv 2) (pe_op op_shl1 pe_int (pv 6))) pe_int) (pe_op op_mod (pe_op op_fdiv (pv 3) (pe_op op_shl1 pe_int (pv 6))) pe_int)))
          (pss_one (ps_if (PW.pt (pw_or (PW.pt (pw_and (pt_cmpR op_eq (pv 0) pe_str (nomark _)) (pw_and1 (pt_cmpR op_eq (pv 7) pe_int (nomark _)))))
              (pw_or (PW.pt (pw_and (pt_cmpR op_eq (pv 0) pe_str (nomark _)) (pw_and1 (pt_cmpR op_gt (pv 7) pe_int (nomark _)))))
              (pw_or1 (PW.pt (pw_and (pt_cmpR op_eq (pv 0) pe_str (nomark _)) (pw_and1 (pt_cmpR op_eq (pv 7) pe_int (nomark _)))))))))
            (pss_one (ps_set (i := 5) nd rfl (.inl rfl) (pe_op op_add (pv 5) (pe_op op_shl1 pe_int (pv 6))))) pss_nil))))
        (pss_one (ps_ret (pv 5))))) pss_nil)
      (pss_cons (ps_if (pt_cmpR op_eq (pv 0) pe_str (nomark _)) (pss_one (ps_ret (pe_ifExp (pt_cmpR op_ge (pv 3) (pv 1) (nomark _)) pe_int (pe_op op_sub (pe_op op_mul (pv 2) (pe_op op_shl1 pe_int (pv 3))) (pe_op op_mul (pe_op op_fdiv (pe_op op_mul (pv 2) (pe_op op_shl1 pe_int (pv 3))) (pv 4)) (pv 4)))))) pss_nil)
      (pss_cons (ps_if (pt_cmpR op_eq (pv 0) pe_str (nomark _)) (pss_one (ps_ret (pe_ifExp (pt_cmpR op_ge (pv 3) (pv 1) (nomark _)) pe_int (pe_op op_fdiv (pv 2) (pe_op op_shl1 pe_int (pv 3)))))) pss_nil)
      (pss_cons (ps_if (pt_cmpR op_eq (pv 0) pe_str (nomark _)) (pss_one (ps_ret (pe_ifExp (pt_cmpR op_lt (pv 2) (pv 3) (nomark _)) pe_int pe_int))) pss_nil)
      (pss_cons (ps_if (pt_cmpR op_eq (pv 0) pe_str (nomark _)) (pss_one (ps_ret (pe_ifExp (pt_cmpR op_eq (pv 2) (pv 3) (nomark _)) pe_int pe_int))) pss_nil)
      (pss_cons (ps_if (pt_cmpR op_eq (pv 0) pe_str (nomark _)) (pss_one (ps_ret (pe_op op_sub (pe_op op_sub (pv 4) pe_int) (pv 2)))) pss_nil)
      (pss_one (ps_ret (pe_ifExp (pt_cmpR op_eq (pv 2) pe_int (nomark _)) pe_int (pe_op op_sub (pv 4) (pv 2)))))))))))))), ?_⟩
    -- size = 1 << w
    refine ⟨_, rfl, W, rfl, rfl, hW, ?_⟩
    -- add
    refine ⟨_, rfl, rfl, _, rfl, ite2 (fun e0 => ?_) (fun e0 => ?_)⟩
    · obtain rfl := pick ho 0 rfl (str_of e0)
      refine ⟨_, rfl, _, rfl, _, _, rfl, rfl, _, rfl, _, _, rfl, rfl, _, rfl, ite2 (fun e => ?_) (fun e => ?_)⟩
      · refine ⟨_, rfl, _, rfl, _, _, rfl, rfl, ?_⟩
        rw [add_lo (of_decide_eq_true e)] at qs
        exact qs
      · refine ⟨_, rfl, _, rfl, _, _, rfl, rfl, _, rfl, _, _, rfl, rfl, ?_⟩
        rw [add_hi ha hb (fun z => e (decide_eq_true z))] at qs
        exact qs
    -- sub
    refine ⟨_, rfl, rfl, _, rfl, ite2 (fun e1 => ?_) (fun e1 => ?_)⟩
    · obtain rfl := pick ho 1 rfl (str_of e1)
      refine ⟨_, rfl, _, rfl, _, _, rfl, rfl, _, rfl, ite2 (fun e => ?_) (fun e => ?_)⟩
      · refine ⟨_, rfl, _, rfl, _, _, rfl, rfl, ?_⟩
        rw [sub_hi ha (of_decide_eq_true e)] at qs
        exact qs
      · refine ⟨_, rfl, _, rfl, _, _, rfl, rfl, _, rfl, _, _, rfl, rfl, ?_⟩
        rw [sub_lo hb (fun z => e (decide_eq_true z))] at qs
        exact qs
    -- mul
    refine ⟨_, rfl, rfl, _, rfl, ite2 (fun e2 => ?_) (fun e2 => ?_)⟩
    · obtain rfl := pick ho 2 rfl (str_of e2)
      refine ⟨_, rfl, _, rfl, _, _, rfl, rfl, .inl ⟨by omega, by omega⟩, _, rfl, _, rfl, _, _, rfl, rfl, .inl ⟨by omega, by omega⟩, _, rfl, _, _, rfl, rfl, ⟨by omega, by omega⟩, _, rfl, _, _, rfl, rfl, .inr ⟨by omega, by omega⟩, _, _, rfl, rfl, ?_⟩
      show Q (.int ((a : Int) * b - (a : Int) * b / 2 ^ W * 2 ^ W)) H
      rw [rest_eq]
      exact qs
    -- and, or, xor
    refine ⟨_, rfl, (by show 3 ≤ sizeLine; decide), fun l hl => ⟨l, _, rfl, .inl (SqL.of upd_same), rfl, rfl, _, rfl, ite2 (fun e3 => ?_) (fun e3 => ?_)⟩⟩
    · obtain ⟨c, hB, rfl⟩ := bit_ops ho e3
      have sm : Same H (upd H l (.lst [.str "and", .str "or", .str "xor"])) := fun b o e => by
        rw [upd_ne (ne_of_none e hl)]
        exact e
      refine ⟨_, rfl, W, rfl, by omega, by omega, for_range (lo := 0) (n := ((W : Int)).toNat) (fun i σ H' => ∃ y6 y7, σ = [some (.str op), some (.int W), some (.int a), some (.int b), some (.int (2 ^ W)), some (.int ((bop c a b % 2 ^ i : Nat) : Int)), y6, y7] ∧ H' = upd H l (.lst [.str "and", .str "or", .str "xor"]))
        ⟨none, none, by rw [Nat.pow_zero, Nat.mod_one]; rfl, rfl⟩ ?_ ?_⟩
      · rintro i σ H' hi ⟨y6, y7, rfl, rfl⟩
        rw [Int.toNat_natCast] at hi
        have lk : (0 : Int) < 2 ^ i := pow_pos i
        have lk16 : (2 : Int) ^ i ≤ 65536 := pow_le16 (by omega)
        have ek : V.int ((0 : Int) + (i : Int)) = V.int (i : Int) := by rw [Int.zero_add]
        refine ⟨_, rfl, _, rfl, i, rfl, ek, by omega, _, _, rfl, rfl, ⟨lk, by omega⟩, _, _, rfl, rfl, (by show (0 : Int) < 2; decide),
          _, rfl, _, rfl, i, rfl, ek, by omega, _, _, rfl, rfl, ⟨lk, by omega⟩, _, _, rfl, rfl, (by show (0 : Int) < 2; decide), _, _, rfl, rfl, ?_⟩
        refine gName_go (nx_go ?_)
        refine tIfS_val (or_val (and_val (fun Q q => ⟨_, rfl, rfl, _, rfl, q⟩) (fun Q q => ⟨_, rfl, rfl, _, rfl, q⟩)) (or_val (and_val (fun Q q => ⟨_, rfl, rfl, _, rfl, q⟩) (fun Q q => ⟨_, rfl, _, _, rfl, rfl, _, rfl, q⟩)) (and_val (fun Q q => ⟨_, rfl, rfl, _, rfl, q⟩) (fun Q q => ⟨_, rfl, rfl, _, rfl, q⟩)))) ?_
        have hv := hit_val hB (both (a : Int) (b : Int) i)
        unfold both at hv
        rw [hv]
        have hs := hit_step c a b i
        unfold both at hs
        refine ite2 (fun e => ?_) (fun e => ?_)
        · rw [if_pos e] at hs
          refine ⟨_, rfl, _, rfl, i, rfl, ek, by omega, _, _, rfl, rfl, some (.int (0 + (i : Int))), some (.int ((a : Int) / 2 ^ i % 2 + (b : Int) / 2 ^ i % 2)), ?_, rfl⟩
          rw [hs]
          rfl
        · rw [if_neg e] at hs
          refine ⟨some (.int (0 + (i : Int))), some (.int ((a : Int) / 2 ^ i % 2 + (b : Int) / 2 ^ i % 2)), ?_, rfl⟩
          rw [hs]
          rfl
      · rintro σ H' ⟨y6, y7, rfl, rfl⟩
        refine ⟨_, rfl, ?_⟩
        have q1 := q _ sm
        have em : bop c a b % 2 ^ W = bop c a b := bop_mod ha hb
        show Q (.int ((bop c a b % 2 ^ ((W : Int)).toNat : Nat) : Int)) _
        rw [Int.toNat_natCast, em]
        exact q1
    have sm : Same H (upd H l (.lst [.str "and", .str "or", .str "xor"])) := fun b o e => by
      rw [upd_ne (ne_of_none e hl)]
      exact e
    have qs := q _ sm
    -- shl
    refine ⟨_, rfl, rfl, _, rfl, ite2 (fun e6 => ?_) (fun e6 => ?_)⟩
    · obtain rfl := pick ho 6 rfl (str_of e6)
      refine ⟨_, rfl, _, rfl, _, _, rfl, rfl, _, rfl, ite2 (fun e => ?_) (fun e => ?_)⟩
      · unfold gShl at qs
        rw [if_pos (of_decide_eq_true e)] at qs
        exact qs
      · have e' : ¬ (W : Int) ≤ b := fun z => e (decide_eq_true z)
        have l2 : (2 : Int) ^ b ≤ 65536 := pow_le16 (by omega)
        have l3 := pow_pos b
        refine ⟨_, rfl, _, rfl, b, rfl, rfl, by omega, _, _, rfl, rfl, .inl ⟨by omega, by omega⟩, _, rfl, _, rfl, b, rfl, rfl, by omega, _, _, rfl, rfl, .inl ⟨by omega, by omega⟩, _, rfl, _, _, rfl, rfl, ⟨by omega, by omega⟩, _, rfl, _, _, rfl, rfl, .inr ⟨by omega, by omega⟩, _, _, rfl, rfl, ?_⟩
        show Q (.int ((a : Int) * 2 ^ b - (a : Int) * 2 ^ b / 2 ^ W * 2 ^ W)) _
        rw [rest_eq]
        unfold gShl at qs
        rw [if_neg e'] at qs
        exact qs
    -- shr
    refine ⟨_, rfl, rfl, _, rfl, ite2 (fun e7 => ?_) (fun e7 => ?_)⟩
    · obtain rfl := pick ho 7 rfl (str_of e7)
      refine ⟨_, rfl, _, rfl, _, _, rfl, rfl, _, rfl, ite2 (fun e => ?_) (fun e => ?_)⟩
      · unfold gShr at qs
        rw [if_pos (of_decide_eq_true e)] at qs
        exact qs
      · have e' : ¬ (W : Int) ≤ b := fun z => e (decide_eq_true z)
        have l2 : (2 : Int) ^ b ≤ 65536 := pow_le16 (by omega)
        have l3 := pow_pos b
        refine ⟨_, rfl, _, rfl, b, rfl, rfl, by omega, _, _, rfl, rfl, ⟨l3, by omega⟩, ?_⟩
        unfold gShr at qs
        rw [if_neg e'] at qs
        exact qs
    -- less
    refine ⟨_, rfl, rfl, _, rfl, ite2 (fun e8 => ?_) (fun e8 => ?_)⟩
    · obtain rfl := pick ho 8 rfl (str_of e8)
      refine ⟨_, rfl, _, rfl, _, _, rfl, rfl, _, rfl, ite2 (fun e => ?_) (fun e => ?_)⟩
      · unfold gLess at qs
        rw [if_pos (of_decide_eq_true e)] at qs
        exact qs
      · unfold gLess at qs
        rw [if_neg (fun z => e (decide_eq_true z))] at qs
        exact qs
    -- equal
    refine ⟨_, rfl, rfl, _, rfl, ite2 (fun e9 => ?_) (fun e9 => ?_)⟩
    · obtain rfl := pick ho 9 rfl (str_of e9)
      refine ⟨_, rfl, _, rfl, rfl, _, rfl, ite2 (fun e => ?_) (fun e => ?_)⟩
      · unfold gEqual at qs
        rw [if_pos (V.int.inj (of_decide_eq_true e))] at qs
        exact qs
      · unfold gEqual at qs
        rw [if_neg (fun z => e (decide_eq_true (by rw [z])))] at qs
        exact qs
    -- not
    refine ⟨_, rfl, rfl, _, rfl, ite2 (fun e10 => ?_) (fun e10 => ?_)⟩
    · obtain rfl := pick ho 10 rfl (str_of e10)
      refine ⟨_, rfl, _, _, rfl, rfl, _, rfl, _, _, rfl, rfl, ?_⟩
      exact qs
    -- neg
    obtain rfl := last_neg ho (str_ne e0) (str_ne e1) (str_ne e2) e3 (str_ne e6) (str_ne e7) (str_ne e8) (str_ne e9) (str_ne e10)
    refine ⟨_, rfl, rfl, _, rfl, ite2 (fun e => ?_) (fun e => ?_)⟩
    · rw [neg_0 (V.int.inj (of_decide_eq_true e))] at qs
      exact qs
    · refine ⟨_, rfl, _, rfl, _, _, rfl, rfl, ?_⟩
      rw [neg_1 ha (fun z => e (decide_eq_true (by rw [z])))] at qs
      exact qs
end
end K0

set_option Elab.async false
set_option linter.all false
set_option maxRecDepth 100000
set_option maxHeartbeats 1000000
namespace K0
open PySem L2
/-- all but what stands at d is as it was -/
def Keep (d : Addr) (H H' : Hp) : Prop := ∀ b o, H b = some o → b ≠ d → H' b = some o
theorem Keep.refl (d : Addr) (H : Hp) : Keep d H H := fun _ _ e _ => e
theorem Keep.trans {d : Addr} {H H1 H2 : Hp} (a : Keep d H H1) (b : Keep d H1 H2) : Keep d H H2 := fun c o e n => b c o (a c o e n) n
theorem Keep.of {d : Addr} {H H1 : Hp} (s : Same H H1) : Keep d H H1 := fun c o e _ => s c o e
theorem Keep.put {d : Addr} {H : Hp} {o : HO} : Keep d H (upd H d o) := fun b u e n => by
  rw [upd_ne n]
  exact e
theorem same_new {H : Hp} {p : Addr} {o : HO} (h : H p = none) : Same H (upd H p o) := fun b x e => by
  rw [upd_ne (ne_of_none e h)]
  exact e
/-- the row of draws -/
structure Drw (H : Hp) (d c : Addr) (ns : List Int) (k l s : Int) : Prop where
  at_ : H d = some (.lst [.ref c, .int k, .int l, .int s])
  cells : H c = some (.lst (ns.map V.int))
  ne : c ≠ d
  k0 : -1 ≤ k
  l0 : 0 ≤ l
  s0 : 0 ≤ s
  s1 : s < 2147483648
  pos : ∀ n ∈ ns, 0 ≤ n
theorem Drw.store {H : Hp} {d c : Addr} {ns : List Int} {k l s k' l' s' : Int} (D : Drw H d c ns k l s) (hk : -1 ≤ k') (hl : 0 ≤ l') (h0 : 0 ≤ s') (h1 : s' < 2147483648) : Drw (upd H d (.lst [.ref c, .int k', .int l', .int s'])) d c ns k' l' s' :=
  ⟨upd_same, by rw [upd_ne D.ne]; exact D.cells, D.ne, hk, hl, h0, h1, D.pos⟩
theorem Drw.same {H H' : Hp} {d c : Addr} {ns : List Int} {k l s : Int} (D : Drw H d c ns k l s) (e : Same H H') : Drw H' d c ns k l s := ⟨e _ _ D.at_, e _ _ D.cells, D.ne, D.k0, D.l0, D.s0, D.s1, D.pos⟩
def Drd (H : Hp) (d c : Addr) (ns : List Int) : Prop := ∃ k l s, Drw H d c ns k l s
theorem Drd.same {H H' : Hp} {d c : Addr} {ns : List Int} (D : Drd H d c ns) (e : Same H H') : Drd H' d c ns := by
  obtain ⟨k, l, s, D⟩ := D
  exact ⟨k, l, s, D.same e⟩
def spTake : Sp := fun vs H Q _ => ∃ (d c : Addr) (ns : List Int) (m : Int), vs = [.ref d, .int m] ∧ Drd H d c ns ∧ 1 ≤ m ∧ m ≤ 65536 ∧ ∀ (z : Nat) H', (z : Int) < m → Drd H' d c ns → Keep d H H' → Q (.int z) H'
section
variable {P : Program} {w : World} {K : PySem.W.Frag} {mg : Str → Option Value} {base : Heap}
theorem scTake : FnScope ["draw", "many", "found"] ["draw", "many"] (defScope sTake) := ⟨rfl, rfl, rfl, by decide +kernel, rfl, by decide +kernel, by decide +kernel⟩
theorem ok_take {f : Addr} {fd : FuncData} (F : Fun K "_law_take" "_law_take" sTake f fd) (ml : mg "len" = none) (mi : mg "int" = none) : FnOk P w K mg base CX0 1 f fd ["draw", "many"] spTake := by
  refine F.ok scTake (fun vs H Q E h => ?_) (fun cdv A outer s H vs Q E hr h => ?_)
  · obtain ⟨d, c, ns, m, rfl, _⟩ := h
    rfl
  · obtain ⟨d, c, ns, m, rfl, D, m1, m2, q⟩ := h
    have nd := scTake.nd
    refine ⟨_, C8.pss_cut (ps_if (pt_cmpR op_eq (pe_ix ix_list (pv 0) pe_int (fun _ _ => rfl)) pe_int (nomark _))
        (pss_cons (ps_asg (pe_op op_add (pe_ix ix_list (pv 0) pe_int (fun _ _ => rfl)) pe_int) (pg_sub (pv 0) pe_int set_list))
        (C8.pss_cut (ps_if (pt_cmpR op_lt (pe_ix ix_list (pv 0) pe_int (fun _ _ => rfl)) (pe_callB call_len_seq (by rfl) ml PySem.boot_len (pa_cons (pe_ix ix_list (pv 0) pe_int (fun _ _ => rfl)) pa_nil)) (nomark _))
            (pss_one (ps_asg (pe_ix ix_list (pe_ix ix_list (pv 0) pe_int (fun _ _ => rfl)) (pe_ix ix_list (pv 0) pe_int (fun _ _ => rfl)) (fun _ _ => rfl)) (pg_sub (pv 0) pe_int set_list))) pss_nil)
        (pss_one (ps_if (pt_cmpR op_eq (pe_ix ix_list (pv 0) pe_int (fun _ _ => rfl)) pe_int (nomark _))
            (pss_cons (ps_asg (pe_op op_mod (pe_callTy call_int1 (by rfl) mi (by decide +kernel) (pa_cons (pe_op op_add (pe_op op_mul (pe_ix ix_list (pv 0) pe_int (fun _ _ => rfl)) pe_int) pe_int) pa_nil)) pe_int) (pg_sub (pv 0) pe_int set_list))
            (pss_one (ps_asg (pe_ix ix_list (pv 0) pe_int (fun _ _ => rfl)) (pg_sub (pv 0) pe_int set_list)))) pss_nil)))) pss_nil)
      (pss_cons (ps_set (i := 2) nd rfl (.inl rfl) (pe_op op_mod (pe_callTy call_int1 (by rfl) mi (by decide +kernel) (pa_cons (pe_ix ix_list (pv 0) pe_int (fun _ _ => rfl)) pa_nil)) (pv 1)))
      (pss_cons (ps_asg (pe_op op_fdiv (pe_ix ix_list (pv 0) pe_int (fun _ _ => rfl)) (pv 1)) (pg_sub (pv 0) pe_int set_list))
      (pss_one (ps_ret (pv 2))))), ?_⟩
    refine ⟨fun σ' H' => σ' = [some (.ref d), some (.int m), none] ∧ Drd H' d c ns ∧ Keep d H H', ?_, ?_⟩
    · obtain ⟨k, l, s, D⟩ := D
      refine ⟨_, rfl, d, _, 2, _, rfl, rfl, .of D.at_, atI_nat (j := 2) rfl, rfl, _, rfl, ite2 (fun e => ?_) (fun e => ?_)⟩
      · -- draw[1] = draw[1] + 1
        have D1 : Drw (upd H d (.lst [.ref c, .int (k + 1), .int l, .int s])) d c ns (k + 1) l s := D.store (by have := D.k0; omega) D.l0 D.s0 D.s1
        refine ⟨_, rfl, d, _, 1, _, rfl, rfl, .of D.at_, atI_nat (j := 1) rfl, _, _, rfl, rfl, _, rfl, d, _, 1, 1, rfl, rfl, D.at_, rfl, ?_⟩
        refine ⟨fun σ' H' => σ' = [some (.ref d), some (.int m), none] ∧ Drd H' d c ns ∧ Keep d H H', ?_, ?_⟩
        · refine ⟨_, rfl, d, _, 1, _, rfl, rfl, .of D1.at_, atI_nat (j := 1) rfl, _, rfl, d, _, 0, _, rfl, rfl, .of D1.at_, atI_nat (j := 0) rfl, c, _, rfl, .inl (.of D1.cells), _, _, rfl, rfl, _, rfl, ite2 (fun e => ?_) (fun e => ?_)⟩
          · have hlt := of_decide_eq_true e
            rw [List.length_map] at hlt
            have hk := D1.k0
            have hk0 := D.k0
            obtain ⟨j, hj⟩ : ∃ j : Nat, k + 1 = (j : Int) := ⟨(k + 1).toNat, by omega⟩
            have hjl : j < ns.length := by omega
            have g : (ns.map V.int)[j]? = some (.int ns[j]) := by
              rw [List.getElem?_map, List.getElem?_eq_getElem hjl]
              rfl
            refine ⟨_, rfl, d, _, 0, _, rfl, rfl, .of D1.at_, atI_nat (j := 0) rfl, _, rfl, d, _, 1, _, rfl, rfl, .of D1.at_, atI_nat (j := 1) rfl, c, _, k + 1, _, rfl, rfl, .of D1.cells, at_of hj g, _, rfl, d, _, 2, 2, rfl, rfl, D1.at_, rfl, rfl, ⟨_, _, _, D1.store D1.k0 (D.pos _ (List.getElem_mem hjl)) D1.s0 D1.s1⟩, Keep.put.trans Keep.put⟩
          · exact ⟨rfl, ⟨_, _, _, D1⟩, Keep.put⟩
        · rintro σ' H' ⟨rfl, ⟨k2, l2, s2, D2⟩, kp⟩
          refine ⟨_, rfl, d, _, 2, _, rfl, rfl, .of D2.at_, atI_nat (j := 2) rfl, rfl, _, rfl, ite2 (fun e => ?_) (fun e => ?_)⟩
          · have hs0 := D2.s0
            have hs1 := D2.s1
            have r0 : 0 ≤ (s2 * 48271 + 11) % 2147483647 := Int.emod_nonneg _ (by decide)
            have r1 : (s2 * 48271 + 11) % 2147483647 < 2147483647 := Int.emod_lt_of_pos _ (by decide)
            have D3 : Drw (upd H' d (.lst [.ref c, .int k2, .int l2, .int ((s2 * 48271 + 11) % 2147483647)])) d c ns k2 l2 ((s2 * 48271 + 11) % 2147483647) := D2.store D2.k0 D2.l0 r0 (by omega)
            refine ⟨_, rfl, d, _, 3, _, rfl, rfl, .of D2.at_, atI_nat (j := 3) rfl, _, _, rfl, rfl, .inl ⟨by omega, by omega⟩, _, _, rfl, rfl, .inl ⟨_, rfl, ?_⟩⟩
            refine ⟨_, _, rfl, rfl, (by show (0 : Int) < 2147483647; decide), _, rfl, d, _, 3, 3, rfl, rfl, D2.at_, rfl, ?_⟩
            refine ⟨_, rfl, d, _, 3, _, rfl, rfl, .of D3.at_, atI_nat (j := 3) rfl, _, rfl, d, _, 2, 2, rfl, rfl, D3.at_, rfl, rfl, ⟨_, _, _, D3.store D3.k0 r0 r0 (by omega)⟩, (kp.trans Keep.put).trans Keep.put⟩
          · exact ⟨rfl, ⟨_, _, _, D2⟩, kp⟩
      · exact ⟨rfl, ⟨k, l, s, D⟩, Keep.refl _ _⟩
    · rintro σ' H' ⟨rfl, ⟨k, l, s, D⟩, kp⟩
      have hl := D.l0
      have r0 : 0 ≤ l % m := Int.emod_nonneg _ (by omega)
      have r1 : l % m < m := Int.emod_lt_of_pos _ (by omega)
      have q0 : 0 ≤ l / m := Int.ediv_nonneg hl (by omega)
      refine ⟨_, rfl, d, _, 2, _, rfl, rfl, .of D.at_, atI_nat (j := 2) rfl, .inl ⟨_, rfl, _, rfl, _, _, rfl, rfl, (by show (0 : Int) < m; omega), ?_⟩⟩
      refine ⟨_, rfl, d, _, 2, _, rfl, rfl, .of D.at_, atI_nat (j := 2) rfl, _, rfl, _, _, rfl, rfl, ⟨by omega, by omega⟩, _, rfl, d, _, 2, 2, rfl, rfl, D.at_, rfl, ?_⟩
      refine ⟨_, rfl, ?_⟩
      have ez : ((l % m).toNat : Int) = l % m := Int.toNat_of_nonneg r0
      have qq := q (l % m).toNat (upd H' d (.lst [.ref c, .int k, .int (l / m), .int s])) (by omega) ⟨_, _, _, D.store D.k0 q0 D.s0 D.s1⟩ (kp.trans Keep.put)
      rw [ez] at qq
      exact qq
end
end K0

set_option Elab.async false
set_option linter.all false
set_option maxRecDepth 100000
set_option maxHeartbeats 1000000
namespace K0
open PySem L2
def ten : List V := [.str "add", .str "sub", .str "mul", .str "and", .str "or", .str "xor", .str "shl", .str "shr", .str "less", .str "equal"]
def spPairs : Sp := fun vs H Q _ => vs = [] ∧ ∀ p, H p = none → Q (.ref p) (upd H p (.lst ten))
def spWord : Sp := fun vs H Q _ => ∃ (d c : Addr) (ns : List Int) (W : Nat), vs = [.ref d, .int W] ∧ Drd H d c ns ∧ 1 ≤ W ∧ W ≤ 16 ∧ ∀ (z : Nat) H', z < 2 ^ W → Drd H' d c ns → Keep d H H' → Q (.int z) H'
def spDraw (K : PySem.W.Frag) : Sp := fun vs H Q _ => ∃ (a : Addr) (ns : List Int), vs = [.ref a] ∧ SqL K H a (ns.map V.int) ∧ ns.length ≤ 63 ∧ ∀ d c ms H', Drd H' d c ms → Same H H' → H d = none → Q (.ref d) H'
/-- a def as it is called: its promise, its name, its parameters -/
structure Got (P : Program) (w : World) (K : PySem.W.Frag) (mg : Str → Option Value) (base : Heap) (k : Nat) (x : Str) (ps : List Str) (sp : Sp) : Prop where
  ex : ∃ (f : Addr) (fd : FuncData), FnOk P w K mg base CX0 k f fd ps sp ∧ mg x = some (.ref f) ∧ PySem.W.keepIn K (.ref f) = true ∧ Binds K fd ps []
section
variable {P : Program} {w : World} {K : PySem.W.Frag} {mg : Str → Option Value} {base : Heap}
theorem scPairs : FnScope [] [] (defScope sPairs) := ⟨rfl, rfl, rfl, by decide +kernel, rfl, by decide +kernel, by decide +kernel⟩
theorem ok_pairs {f : Addr} {fd : FuncData} (F : Fun K "_law_pairs" "_law_pairs" sPairs f fd) : FnOk P w K mg base CX0 1 f fd [] spPairs := by
  refine F.ok scPairs (fun vs H Q E h => ?_) (fun cdv A outer s H vs Q E hr h => ?_)
  · obtain ⟨rfl, _⟩ := h
    rfl
  · obtain ⟨rfl, q⟩ := h
    refine ⟨_, pss_one (ps_ret (pe_lst (pa_cons pe_str (pa_cons pe_str (pa_cons pe_str (pa_cons pe_str (pa_cons pe_str (pa_cons pe_str (pa_cons pe_str (pa_cons pe_str (pa_cons pe_str (pa_cons pe_str pa_nil)))))))))))), ?_⟩
    exact ⟨(by show 10 ≤ sizeLine; decide), q⟩
theorem scWord : FnScope ["draw", "w", "k"] ["draw", "w"] (defScope sWord) := ⟨rfl, rfl, rfl, by decide +kernel, rfl, by decide +kernel, by decide +kernel⟩
theorem ok_word {f : Addr} {fd : FuncData} (F : Fun K "_law_word" "_law_word" sWord f fd) (mi : mg "int" = none) (mm : mg "min" = none)
    (GT : Got P w K mg base 1 "_law_take" ["draw", "many"] spTake) (GL : Got P w K mg base 1 "_law_top" ["w"] spTop) : FnOk P w K mg base CX0 2 f fd ["draw", "w"] spWord := by
  obtain ⟨ft, fdt, GT, mgT, kT, bT⟩ := GT.ex
  obtain ⟨fl, fdl, GL, mgL, kL, bL⟩ := GL.ex
  refine F.ok scWord (fun vs H Q E h => ?_) (fun cdv A outer s H vs Q E hr h => ?_)
  · obtain ⟨d, c, ns, W, rfl, _⟩ := h
    rfl
  · obtain ⟨d, c, ns, W, rfl, D, h1, hW, q⟩ := h
    have nd := scWord.nd
    have lp := pow_pos W
    have l16 := pow_le16 hW
    have ep := pow_cast W
    have e2 : 2 ≤ 2 ^ W := by
      have := Nat.pow_le_pow_right (show 0 < 2 by decide) h1
      exact this
    refine ⟨_, pss_cons (ps_set (i := 2) nd rfl (.inl rfl) (pe_call GT hr (by rfl) mgT kT bT .nil pass0 (pa_cons (pv 0) (pa_cons pe_int pa_nil))))
      (pss_cons (ps_if (pt_cmpR op_lt (pv 2) pe_int (nomark _))
        (pss_one (ps_ret (pe_callB (call_min2 rfl) (by rfl) mm PyProof.Rows.boot_min (pa_cons (pe_ix ix_list (pe_lst (pa_cons pe_int (pa_cons pe_int (pa_cons pe_int pa_nil)))) (pv 2) (fun _ _ => rfl)) (pa_cons (pe_call GL hr (by rfl) mgL kL bL .nil pass0 (pa_cons (pv 1) pa_nil)) pa_nil))))) pss_nil)
      (pss_cons (ps_if (pt_cmpR op_eq (pv 2) pe_int (nomark _)) (pss_one (ps_ret (pe_call GL hr (by rfl) mgL kL bL .nil pass0 (pa_cons (pv 1) pa_nil)))) pss_nil)
      (pss_one (ps_ret (pe_op op_mod (pe_callTy call_int1 (by rfl) mi (by decide +kernel) (pa_cons (pe_call GT hr (by rfl) mgT kT bT .nil pass0 (pa_cons (pv 0) (pa_cons pe_int pa_nil))) pa_nil)) (pe_op op_shl1 pe_int (pv 1))))))), ?_⟩
    refine ⟨_, rfl, d, c, ns, 6, rfl, D, by decide, by decide, fun k H1 hk D1 kp1 => ?_⟩
    refine ⟨_, rfl, _, _, rfl, rfl, _, rfl, ite2 (fun e => ?_) (fun e => ?_)⟩
    · have e' : (k : Int) < 3 := of_decide_eq_true e
      refine ⟨(by show 3 ≤ sizeLine; decide), fun p hp => ?_⟩
      have s1 : Same H1 (upd H1 p (.lst [.int 0, .int 1, .int 5])) := same_new hp
      obtain ⟨v, hv, hv0⟩ : ∃ v : Nat, ([.int 0, .int 1, .int 5] : List V)[k]? = some (.int (v : Int)) ∧ v ≤ 5 := by
        match k, e' with
        | 0, _ => exact ⟨0, rfl, by decide⟩
        | 1, _ => exact ⟨1, rfl, by decide⟩
        | 2, _ => exact ⟨5, rfl, by decide⟩
        | k + 3, e => omega
      refine ⟨_, rfl, p, _, _, _, rfl, rfl, .of upd_same, atI_nat hv, _, rfl, W, rfl, hW, _, _, rfl, ?_⟩
      by_cases hlt : (2 : Int) ^ W - 1 < v
      · rw [if_pos hlt]
        have := q (2 ^ W - 1) _ (by omega) (D1.same s1) (kp1.trans (Keep.of s1))
        have ez : ((2 ^ W - 1 : Nat) : Int) = 2 ^ W - 1 := by omega
        rw [ez] at this
        exact this
      · rw [if_neg hlt]
        exact q v _ (by omega) (D1.same s1) (kp1.trans (Keep.of s1))
    · refine ⟨_, rfl, rfl, _, rfl, ite2 (fun e => ?_) (fun e => ?_)⟩
      · refine ⟨_, rfl, W, rfl, hW, ?_⟩
        have := q (2 ^ W - 1) _ (by omega) D1 kp1
        have ez : ((2 ^ W - 1 : Nat) : Int) = 2 ^ W - 1 := by omega
        rw [ez] at this
        exact this
      · refine ⟨_, rfl, d, c, ns, 65536, rfl, D1, by decide, by decide, fun z H2 hz D2 kp2 => .inl ⟨_, rfl, _, rfl, W, rfl, rfl, hW, _, _, rfl, rfl, lp, ?_⟩⟩
        have r0 : 0 ≤ (z : Int) % 2 ^ W := Int.emod_nonneg _ (by omega)
        have r1 : (z : Int) % 2 ^ W < 2 ^ W := Int.emod_lt_of_pos _ lp
        have := q ((z : Int) % 2 ^ W).toNat _ (by omega) D2 (kp1.trans kp2)
        rw [Int.toNat_of_nonneg r0] at this
        exact this
theorem scDraw : FnScope ["script", "seed", "cell"] ["script"] (defScope sDraw) := ⟨rfl, rfl, rfl, by decide +kernel, rfl, by decide +kernel, by decide +kernel⟩
theorem tYes_go {σ : St} {H : Hp} {A B : Bool → Hp → Prop} (h : A true H) : tYes σ H (fun b H3 => if b = true then A b H3 else B b H3) := by
  show if true = true then A true H else B true H
  exact iteT h
def abz (i : Int) : Int := if i < 0 then -i else i
theorem abz_nn (i : Int) : 0 ≤ abz i := by
  unfold abz
  split <;> omega
theorem ok_draw {f : Addr} {fd : FuncData} (F : Fun K "_law_draw" "_law_draw" sDraw f fd) (mi : mg "int" = none) (ma : mg "abs" = none) : FnOk P w K mg base CX0 1 f fd ["script"] (spDraw K) := by
  refine F.ok scDraw (fun vs H Q E h => ?_) (fun cdv A outer s H vs Q E hr h => ?_)
  · obtain ⟨a, ns, rfl, _⟩ := h
    rfl
  · obtain ⟨a, ns, rfl, hS, hlen, q⟩ := h
    have nd := scDraw.nd
    refine ⟨_, pss_cons (ps_set (i := 1) nd rfl (.inl rfl) pe_int)
      (pss_cons (ps_for PassesOwn.never rfl (pi_list (pv 0)) (pg_name (i := 2) nd rfl (.inl rfl))
        (pss_one (ps_set (i := 1) nd rfl (.inl rfl) (pe_op op_mod (pe_callTy call_int1 (by rfl) mi (by decide +kernel) (pa_cons (pe_op op_add (pe_op op_add (pe_op op_mul (pv 1) pe_int) (pe_op op_mod (pe_callB call_abs (by rfl) ma PyProof.Rows.boot_abs (pa_cons (pe_callTy call_int1 (by rfl) mi (by decide +kernel) (pa_cons (pv 2) pa_nil)) pa_nil)) pe_int)) pe_int) pa_nil)) pe_int))))
      (pss_one (ps_ret (pe_lst (pa_cons (pe_lc (own := [("cell", 2)]) (g := gName 2) (tt := tYes) rfl nd (pi_list (pv 0)) (blkOk_by (N := ["script", "seed", "cell"]) (sc := defScope sDraw) (by decide +kernel)) (fun _ _ _ _ _ => pg_name (i := 2) nd rfl (.inl rfl)) (fun _ _ _ _ _ => pts_nil)
            (fun _ _ _ _ _ => pe_callB call_abs (by rfl) ma PyProof.Rows.boot_abs (pa_cons (pe_callTy call_int1 (by rfl) mi (by decide +kernel) (pa_cons (pv 2) pa_nil)) pa_nil)))
          (pa_cons (pe_un un_neg pe_int) (pa_cons pe_int (pa_cons (pv 1) pa_nil)))))))), ?_⟩
    refine ⟨_, rfl, a, rfl, ⟨_, hS⟩, for_list (xs := ns.map V.int) (fun i σ H' => ∃ s y2, σ = [some (.ref a), some (.int s), y2] ∧ 0 ≤ s ∧ s < 2147483648 ∧ H' = H) ⟨7, none, rfl, by decide, by decide, rfl⟩ ?_ ?_ ?_⟩
    · rintro i σ H' _ ⟨s, y2, rfl, _, _, rfl⟩
      exact hS
    · rintro i x σ H' hx ⟨s, y2, rfl, s0, s1, rfl⟩
      obtain ⟨n, rfl⟩ : ∃ n, x = V.int n := by
        rw [List.getElem?_map] at hx
        cases e : ns[i]? with
        | none => rw [e] at hx; cases hx
        | some u => rw [e] at hx; exact ⟨u, (Option.some.inj hx).symm⟩
      refine ⟨_, rfl, _, _, rfl, rfl, .inl ⟨by omega, by omega⟩, _, rfl, .inl ⟨_, rfl, _, rfl, _, _, rfl, rfl, (by show (0 : Int) < 65521; decide), _, _, rfl, rfl, _, _, rfl, rfl, .inl ⟨_, rfl, _, _, rfl, rfl, (by show (0 : Int) < 2147483647; decide), ?_⟩⟩⟩
      refine ⟨_, _, rfl, Int.emod_nonneg _ (by decide), ?_, rfl⟩
      have r1 := Int.emod_lt_of_pos (s * 48271 + (if n < 0 then -n else n) % 65521 + 1) (show (0 : Int) < 2147483647 by decide)
      exact Int.lt_trans r1 (by decide)
    · rintro σ H' ⟨s, y2, rfl, s0, s1, rfl⟩
      refine ⟨_, rfl, a, rfl, ⟨_, hS⟩, fun D hD => lc_list (xs := ns.map V.int) (fun i H1 => i ≤ ns.length ∧ H1 D = some (.lst ((ns.take i).map fun n => V.int (abz n))) ∧ Same H' H1) ⟨Nat.zero_le _, upd_same, same_new hD⟩ ?_ ?_ ?_⟩
      · rintro i H1 _ ⟨_, _, sm⟩
        exact sm.seq hS
      · rintro i x H1 hx ⟨hi, hD1, sm⟩
        have hil : i < ns.length := by
          have q := (List.getElem?_eq_some_iff.mp hx).1
          rw [List.length_map] at q
          exact q
        obtain rfl : x = V.int ns[i] := by
          rw [List.getElem?_map, List.getElem?_eq_getElem hil] at hx
          exact (Option.some.inj hx).symm
        refine ⟨rfl, ?_⟩
        refine tYes_go ?_
        refine ⟨_, rfl, .inl ⟨_, rfl, _, rfl, ?_⟩⟩
        refine ⟨_, hD1, ?_, hil, ?_, ?_⟩
        · rw [List.length_map, List.length_take]
          exact small1000 (by omega)
        · rw [upd_same, List.take_add_one, List.getElem?_eq_getElem hil, List.map_append]
          rfl
        · intro b o e
          rw [upd_ne (ne_of_none e hD)]
          exact sm b o e
      · rintro H1 ⟨_, hD1, sm⟩
        rw [List.length_map, List.take_length] at hD1
        refine ⟨_, rfl, _, rfl, (by show 4 ≤ sizeLine; decide), fun p hp => ?_⟩
        have s2 : Same H1 (upd H1 p (.lst [.ref D, .int (-1), .int 0, .int s])) := same_new hp
        have hDp : D ≠ p := ne_of_none hD1 hp
        refine q p D (ns.map abz) _ ⟨-1, 0, s, ⟨upd_same, ?_, hDp, by decide, by decide, s0, s1, ?_⟩⟩ (sm.trans s2) (sm.free hp)
        · rw [upd_ne hDp, hD1, List.map_map]
          rfl
        · intro n hn
          obtain ⟨m, _, rfl⟩ := List.mem_map.mp hn
          exact abz_nn m
end
end K0

set_option Elab.async false
set_option linter.all false
set_option maxRecDepth 100000
set_option maxHeartbeats 1000000
namespace K0
open PySem L2
def spComp : Sp := fun vs H Q _ => ∃ (op : Str) (g : G) (W a b : Nat), vs = [.str op, .int W, .int a, .int b] ∧ (op, g) ∈ ops ∧ 1 ≤ W ∧ W ≤ 16 ∧ a < 2 ^ W ∧ b < 2 ^ W ∧ Q (.int (g W a b)) H
def spLaw (K : PySem.W.Frag) : Sp := fun vs H Q _ => ∃ (a : Addr) (ns : List Int), vs = [.ref a] ∧ SqL K H a (ns.map V.int) ∧ ns.length ≤ 63 ∧ ∀ H', Q (.bl true) H'
def twelve : List V := ten ++ [.str "not", .str "neg"]
theorem twelve_eq : twelve = ops.map fun p => V.str p.1 := rfl
theorem draw_w {t : Nat} (ht : t < 16) {k : Nat} (hk : k < 7) : ∃ W : Nat, ([.int 1, .int 2, .int 7, .int 8, .int 15, .int 16, .int (1 + (t : Int))] : List V)[k]? = some (.int (W : Int)) ∧ 1 ≤ W ∧ W ≤ 16 := by
  match k, hk with
  | 0, _ => exact ⟨1, rfl, by decide, by decide⟩
  | 1, _ => exact ⟨2, rfl, by decide, by decide⟩
  | 2, _ => exact ⟨7, rfl, by decide, by decide⟩
  | 3, _ => exact ⟨8, rfl, by decide, by decide⟩
  | 4, _ => exact ⟨15, rfl, by decide, by decide⟩
  | 5, _ => exact ⟨16, rfl, by decide, by decide⟩
  | 6, _ => exact ⟨1 + t, congrArg (fun z => some (V.int z)) (by omega), by omega, by omega⟩
  | k + 7, h => omega
theorem draw_x {W z1 t z2 : Nat} (h1 : z1 < 2 ^ W) (ht : t < W) (h2 : z2 < 2 ^ W) {k : Nat} (hk : k < 3) : ∃ a : Nat, ([.int (z1 : Int), .int (2 ^ t), .int (2 ^ W - 1 - (z2 : Int))] : List V)[k]? = some (.int (a : Int)) ∧ a < 2 ^ W := by
  have ep := pow_cast W
  match k, hk with
  | 0, _ => exact ⟨z1, rfl, h1⟩
  | 1, _ => exact ⟨2 ^ t, congrArg (fun z => some (V.int z)) (pow_cast t).symm, Nat.pow_lt_pow_right (by decide) ht⟩
  | 2, _ => exact ⟨2 ^ W - 1 - z2, congrArg (fun z => some (V.int z)) (by omega), by omega⟩
  | k + 3, h => omega
theorem draw_y {W z1 a t : Nat} (h1 : 1 ≤ W) {k : Nat} (hk : k < 5) : ∃ v : Nat, ([.int (z1 : Int), .int (a : Int), .int (W : Int), .int ((W : Int) - 1), .int (t : Int)] : List V)[k]? = some (.int (v : Int)) := by
  match k, hk with
  | 0, _ => exact ⟨z1, rfl⟩
  | 1, _ => exact ⟨a, rfl⟩
  | 2, _ => exact ⟨W, rfl⟩
  | 3, _ => exact ⟨W - 1, congrArg (fun z => some (V.int z)) (by omega)⟩
  | 4, _ => exact ⟨t, rfl⟩
  | k + 5, h => omega
theorem min_y {W v : Nat} : ∃ b : Nat, (if (v : Int) < 2 ^ W - 1 then (v : Int) else 2 ^ W - 1) = (b : Int) ∧ b < 2 ^ W := by
  have ep := pow_cast W
  have lp := pow_pos W
  by_cases h : (v : Int) < 2 ^ W - 1
  · exact ⟨v, by rw [if_pos h], by omega⟩
  · exact ⟨2 ^ W - 1, by rw [if_neg h]; omega, by omega⟩
theorem iteNb {b : Bool} {A B : Prop} (h : b = true) (x : B) : if (!b) = true then A else B := by
  subst h
  exact iteF x
theorem call_minN {X : Cx} (hc : X.calm = true) : CallR X (.builtin "min") (fun xs H Q => ∃ i j b : Int, xs = [.int i, .int j] ∧ (if j < i then j else i) = b ∧ Q (.int b) H) := by
  intro pins s σ H xs us Q I r h
  obtain ⟨i, j, b, e, eb, q⟩ := h
  exact call_min2 hc pins s σ H xs us Q I r ⟨i, j, e, by rw [eb]; exact q⟩
theorem Drd.ne {H : Hp} {d c p : Addr} {ns : List Int} (D : Drd H d c ns) (hp : H p = none) : p ≠ d := by
  obtain ⟨k, l, s, D⟩ := D
  exact (ne_of_none D.at_ hp).symm
section
variable {P : Program} {w : World} {K : PySem.W.Frag} {mg : Str → Option Value} {base : Heap}
theorem scComp : FnScope ["op", "w", "x", "y", "action"] ["op", "w", "x", "y"] (defScope sCompute) := ⟨rfl, rfl, rfl, by decide +kernel, rfl, by decide +kernel, by decide +kernel⟩
/-- the table of actions -/
def Table (P : Program) (w : World) (K : PySem.W.Frag) (mg : Str → Option Value) (base : Heap) (dA : Addr) : Prop :=
  ∀ op g, (op, g) ∈ ops → ∃ (f : Addr) (fd : FuncData) (ps : List Str), KDct K w dA op (.ref f) ∧ FnOk P w K mg base CX0 2 f fd ps (spAct g) ∧ PySem.W.keepIn K (.ref f) = true ∧ Binds K fd ps []
theorem ok_compute {f : Addr} {fd : FuncData} {dA : Addr} (F : Fun K "compute" "compute" sCompute f fd) (mA : mg "_ACTIONS" = some (.ref dA)) (T : Table P w K mg base dA) : FnOk P w K mg base CX0 3 f fd ["op", "w", "x", "y"] spComp := by
  refine F.ok scComp (fun vs H Q E h => ?_) (fun cdv A outer s H vs Q E hr h => ?_)
  · obtain ⟨op, g, W, a, b, rfl, _⟩ := h
    rfl
  · obtain ⟨op, g, W, a, b, rfl, ho, h1, hW, ha, hb, q⟩ := h
    obtain ⟨fa, fda, ps, kd, FA, kA, bA⟩ := T op g ho
    have nd := scComp.nd
    refine ⟨_, pss_cons (ps_set (i := 4) nd rfl (.inl rfl) (pe_ix ix_kdict (pe_glob (v := .ref dA) (by rfl) mA rfl) (pv 0) (fun _ _ => rfl)))
      (pss_one (ps_ret (pe_callL (i := 4) (f := fa) FA hr rfl (.inl rfl) kA bA .nil pass0 (pa_cons (pv 1) (pa_cons (pv 2) (pa_cons (pv 3) pa_nil)))))), ?_⟩
    refine ⟨_, rfl, dA, op, .ref fa, rfl, rfl, kd, rfl, _, rfl, _, rfl, _, rfl, W, a, b, rfl, h1, hW, ha, hb, q⟩
theorem scLaw : FnScope ["script", "draw", "j", "w", "x", "y", "op", "answer"] ["script"] (defScope sLaw) := ⟨rfl, rfl, rfl, by decide +kernel, rfl, by decide +kernel, by decide +kernel⟩
structure Names (K : PySem.W.Frag) (mg : Str → Option Value) (pP pS : Addr) : Prop where
  mP : mg "PAIRS" = some (.ref pP)
  mS : mg "SINGLES" = some (.ref pS)
  tP : ∀ H, SqT K H pP ten
  tS : ∀ H, SqT K H pS [.str "not", .str "neg"]
  list : mg "list" = none
  tuple : mg "tuple" = none
  range : mg "range" = none
  min : mg "min" = none
  isin : mg "isinstance" = none
  int : mg "int" = none
  bool : mg "bool" = none
def dten : List PyData := [.str "add", .str "sub", .str "mul", .str "and", .str "or", .str "xor", .str "shl", .str "shr", .str "less", .str "equal"]
def dtwo : List PyData := [.str "not", .str "neg"]
theorem all_ten {H : Hp} : DpAll K H ten dten := .cons (.str _) (.cons (.str _) (.cons (.str _) (.cons (.str _) (.cons (.str _) (.cons (.str _) (.cons (.str _) (.cons (.str _) (.cons (.str _) (.cons (.str _) .nil)))))))))
theorem all_two {H : Hp} : DpAll K H [.str "not", .str "neg"] dtwo := .cons (.str _) (.cons (.str _) .nil)
theorem eq_ten : PyData.eqv (.list dten) (.list dten) = true := by decide +kernel
theorem eq_two : PyData.eqv (.tuple dtwo) (.tuple dtwo) = true := by decide +kernel
theorem sh_ten : SeqAt.shaped (.list dten) = true := by decide +kernel
theorem sh_two : SeqAt.shaped (.tuple dtwo) = true := by decide +kernel
theorem ok_law {f : Addr} {fd : FuncData} {pP pS : Addr} (F : Fun K "law" "law" sLaw f fd) (N : Names K mg pP pS)
    (GD : Got P w K mg base 1 "_law_draw" ["script"] (spDraw K)) (GT : Got P w K mg base 1 "_law_take" ["draw", "many"] spTake) (GW : Got P w K mg base 2 "_law_word" ["draw", "w"] spWord)
    (GP : Got P w K mg base 1 "_law_pairs" [] spPairs) (GO : Got P w K mg base 1 "top" ["w"] spTop) (GL : Got P w K mg base 1 "_law_top" ["w"] spTop)
    (GC : Got P w K mg base 3 "compute" ["op", "w", "x", "y"] spComp) (GE : Got P w K mg base 1 "_law_compute" ["op", "w", "x", "y"] spLC) : FnOk P w K mg base CX0 4 f fd ["script"] (spLaw K) := by
  obtain ⟨fD, fdD, GD, mD, kD, bD⟩ := GD.ex
  obtain ⟨fP, fdP, GP, mP, kP, bP⟩ := GP.ex
  obtain ⟨fO, fdO, GO, mO, kO, bO⟩ := GO.ex
  obtain ⟨fL, fdL, GL, mL, kL, bL⟩ := GL.ex
  obtain ⟨fC, fdC, GC, mC, kC, bC⟩ := GC.ex
  obtain ⟨fE, fdE, GE, mE, kE, bE⟩ := GE.ex
  refine F.ok scLaw (fun vs H Q E h => ?_) (fun cdv A outer s H vs Q E hr h => ?_)
  · obtain ⟨a, ns, rfl, _⟩ := h
    rfl
  · obtain ⟨a, ns, rfl, hS, hlen, q⟩ := h
    have nd := scLaw.nd
    have hr1 : Room 1 _ := hr.mono (by decide)
    have hr2 : Room 2 _ := hr.mono (by decide)
    obtain ⟨fT, fdT, GT, mT, kT, bT⟩ := GT.ex
    obtain ⟨fW, fdW, GW, mW, kW, bW⟩ := GW.ex
    refine ⟨_, pss_cons (ps_set (i := 1) nd rfl (.inl rfl) (pe_call GD hr1 (by rfl) mD kD bD .nil pass0 (pa_cons (pv 0) pa_nil)))
      (C8.pss_cut (ps_if (PW.pt (pw_or (pt_cmpR (op_neD hr.units) (pe_callTy call_list_of (by rfl) N.list (by decide +kernel) (pa_cons (pe_glob (v := .ref pP) (by rfl) N.mP rfl) pa_nil)) (pe_call0 GP hr1 (by rfl) mP kP bP .nil pass0) (nomark _))
          (pw_or1 (pt_cmpR (op_neD hr.units) (pe_callTy call_tupleT (by rfl) N.tuple (by decide +kernel) (pa_cons (pe_glob (v := .ref pS) (by rfl) N.mS rfl) pa_nil)) (pe_tup (pa_cons pe_str (pa_cons pe_str pa_nil))) (nomark _)))))
        (pss_one (ps_ret pe_bl)) pss_nil)
      (pss_cons (ps_for PassesOwn.never rfl (pi_range1 (by rfl) N.range (pa_cons pe_int pa_nil)) (pg_name (i := 2) nd rfl (.inl rfl))
        (pss_cons (ps_set (i := 3) nd rfl (.inl rfl) (pe_ix ix_list (pe_lst (pa_cons pe_int (pa_cons pe_int (pa_cons pe_int (pa_cons pe_int (pa_cons pe_int (pa_cons pe_int (pa_cons (pe_op op_add pe_int (pe_call GT hr1 (by rfl) mT kT bT .nil pass0 (pa_cons (pv 1) (pa_cons pe_int pa_nil)))) pa_nil)))))))) (pe_call GT hr1 (by rfl) mT kT bT .nil pass0 (pa_cons (pv 1) (pa_cons pe_int pa_nil))) (fun _ _ => rfl)))
        (pss_cons (ps_if (pt_cmpR op_ne (pe_call GO hr1 (by rfl) mO kO bO .nil pass0 (pa_cons (pv 3) pa_nil)) (pe_call GL hr1 (by rfl) mL kL bL .nil pass0 (pa_cons (pv 3) pa_nil)) (nomark _)) (pss_one (ps_ret pe_bl)) pss_nil)
        (pss_cons (ps_set (i := 4) nd rfl (.inl rfl) (pe_ix ix_list (pe_lst (pa_cons (pe_call GW hr2 (by rfl) mW kW bW .nil pass0 (pa_cons (pv 1) (pa_cons (pv 3) pa_nil))) (pa_cons (pe_op op_shl1 pe_int (pe_call GT hr1 (by rfl) mT kT bT .nil pass0 (pa_cons (pv 1) (pa_cons (pv 3) pa_nil)))) (pa_cons (pe_op op_sub (pe_call GL hr1 (by rfl) mL kL bL .nil pass0 (pa_cons (pv 3) pa_nil)) (pe_call GW hr2 (by rfl) mW kW bW .nil pass0 (pa_cons (pv 1) (pa_cons (pv 3) pa_nil)))) pa_nil)))) (pe_call GT hr1 (by rfl) mT kT bT .nil pass0 (pa_cons (pv 1) (pa_cons pe_int pa_nil))) (fun _ _ => rfl)))
        (pss_cons (ps_set (i := 5) nd rfl (.inl rfl) (pe_callB (call_minN rfl) (by rfl) N.min PyProof.Rows.boot_min (pa_cons (pe_call GL hr1 (by rfl) mL kL bL .nil pass0 (pa_cons (pv 3) pa_nil)) (pa_cons
            (pe_ix ix_list (pe_lst (pa_cons (pe_call GW hr2 (by rfl) mW kW bW .nil pass0 (pa_cons (pv 1) (pa_cons (pv 3) pa_nil))) (pa_cons (pv 4) (pa_cons (pv 3) (pa_cons (pe_op op_sub (pv 3) pe_int) (pa_cons (pe_call GT hr1 (by rfl) mT kT bT .nil pass0 (pa_cons (pv 1) (pa_cons (pv 3) pa_nil))) pa_nil)))))) (pe_call GT hr1 (by rfl) mT kT bT .nil pass0 (pa_cons (pv 1) (pa_cons pe_int pa_nil))) (fun _ _ => rfl)) pa_nil))))
        (pss_one (ps_for PassesOwn.never rfl (pi_list (pe_op op_cat (pe_call0 GP hr1 (by rfl) mP kP bP .nil pass0) (pe_lst (pa_cons pe_str (pa_cons pe_str pa_nil))))) (pg_name (i := 6) nd rfl (.inl rfl))
          (pss_cons (ps_set (i := 7) nd rfl (.inl rfl) (pe_call GC hr (by rfl) mC kC bC .nil pass0 (pa_cons (pv 6) (pa_cons (pv 3) (pa_cons (pv 4) (pa_cons (pv 5) pa_nil))))))
          (pss_one (ps_if (PW.pt (pw_or (pt_not (pt_val (pe_callB call_isi (by rfl) N.isin PyProof.Rows.boot_isinstance (pa_cons (pv 7) (pa_cons (pe_bltn (v := .ty "int") (by rfl) N.int (by decide +kernel) rfl) pa_nil)))))
              (pw_or (pt_val (pe_callB call_isi (by rfl) N.isin PyProof.Rows.boot_isinstance (pa_cons (pv 7) (pa_cons (pe_bltn (v := .ty "bool") (by rfl) N.bool (by decide +kernel) rfl) pa_nil))))
              (pw_or1 (pt_cmpR op_ne (pv 7) (pe_call GE hr1 (by rfl) mE kE bE .nil pass0 (pa_cons (pv 6) (pa_cons (pv 3) (pa_cons (pv 4) (pa_cons (pv 5) pa_nil))))) (nomark _)))))) (pss_one (ps_ret pe_bl)) pss_nil))))))))))
      (pss_one (ps_ret pe_bl)))), ?_⟩
    -- draw = _law_draw(script)
    refine ⟨_, rfl, a, ns, rfl, hS, hlen, fun d c ms H1 D1 s1 nd1 => ?_⟩
    refine ⟨fun σ' H' => σ' = [some (.ref a), some (.ref d), none, none, none, none, none, none] ∧ Drd H' d c ms, ?_, ?_⟩
    · -- list(PAIRS) != _law_pairs() or tuple(SINGLES) != ('not', 'neg')
      refine ⟨pP, ten, rfl, .inr (N.tP _), fun l hl => ⟨rfl, fun p hp => ?_⟩⟩
      have nlp : l ≠ p := ne_of_none upd_same hp
      refine ⟨.list dten, .list dten, .lst (.of (by rw [upd_ne nlp]; exact upd_same)) all_ten, .lst (.of upd_same) all_ten, sh_ten, sh_ten, _, rfl, iteNb eq_ten ?_⟩
      refine ⟨pS, _, rfl, N.tS _, (by show 2 ≤ sizeLine; decide), fun t ht => ⟨.tuple dtwo, .tuple dtwo, .tup (N.tS _) all_two, .tup (.of upd_same) all_two, sh_two, sh_two, _, rfl, iteNb eq_two ?_⟩⟩
      exact ⟨rfl, ((D1.same (same_new hl)).same (same_new hp)).same (same_new ht)⟩
    · rintro σ' H' ⟨rfl, D2⟩
      refine ⟨6, rfl, by decide, by decide, for_range (lo := 0) (n := 6) (fun i σ H' => ∃ y2 y3 y4 y5 y6 y7, σ = [some (.ref a), some (.ref d), y2, y3, y4, y5, y6, y7] ∧ Drd H' d c ms) ⟨none, none, none, none, none, none, rfl, D2⟩ ?_ ?_⟩
      · rintro j σ H2 hj ⟨y2, y3, y4, y5, y6, y7, rfl, D2⟩
        -- w
        refine ⟨_, rfl, d, c, ms, 16, rfl, D2, by decide, by decide, fun t H3 ht D3 kp3 => ⟨_, _, rfl, rfl, (by show 7 ≤ sizeLine; decide), fun p hp => ?_⟩⟩
        refine ⟨_, rfl, d, c, ms, 7, rfl, D3.same (same_new hp), by decide, by decide, fun k H5 hk D5 kp5 => ?_⟩
        obtain ⟨W, hv, w1, w16⟩ := draw_w (t := t) (by omega) (k := k) (by omega)
        refine ⟨p, _, _, _, rfl, rfl, .of (kp5 p _ upd_same (D3.ne hp)), atI_nat hv, ?_⟩
        -- top(w) != _law_top(w)
        refine ⟨_, rfl, W, rfl, w16, _, rfl, W, rfl, w16, rfl, _, rfl, iteNS rfl ?_⟩
        -- x
        refine ⟨_, rfl, _, rfl, d, c, ms, W, rfl, D5, w1, w16, fun z1 H6 hz1 D6 kp6 => ?_⟩
        refine ⟨_, rfl, _, rfl, d, c, ms, W, rfl, D6, by omega, by omega, fun t2 H7 ht2 D7 kp7 => ⟨t2, rfl, rfl, by omega, ?_⟩⟩
        refine ⟨_, rfl, W, rfl, w16, _, rfl, _, rfl, d, c, ms, W, rfl, D7, w1, w16, fun z2 H8 hz2 D8 kp8 => ⟨_, _, rfl, rfl, (by show 3 ≤ sizeLine; decide), fun p2 hp2 => ?_⟩⟩
        refine ⟨_, rfl, d, c, ms, 3, rfl, D8.same (same_new hp2), by decide, by decide, fun k2 H9 hk2 D9 kp9 => ?_⟩
        obtain ⟨a0, hv2, ha⟩ := draw_x hz1 (t := t2) (by omega) hz2 (k := k2) (by omega)
        refine ⟨p2, _, _, _, rfl, rfl, .of (kp9 p2 _ upd_same (D8.ne hp2)), atI_nat hv2, ?_⟩
        -- y
        refine ⟨_, rfl, W, rfl, w16, ?_⟩
        refine ⟨_, rfl, _, rfl, d, c, ms, W, rfl, D9, w1, w16, fun z3 H10 hz3 D10 kp10 => ?_⟩
        refine ⟨_, rfl, _, rfl, _, rfl, _, _, rfl, rfl, _, rfl, _, rfl, d, c, ms, W, rfl, D10, by omega, by omega, fun t3 H11 ht3 D11 kp11 => ⟨(by show 5 ≤ sizeLine; decide), fun p3 hp3 => ?_⟩⟩
        refine ⟨_, rfl, d, c, ms, 5, rfl, D11.same (same_new hp3), by decide, by decide, fun k3 H12 hk3 D12 kp12 => ?_⟩
        obtain ⟨v, hv3⟩ := draw_y (W := W) (z1 := z3) (a := a0) (t := t3) w1 (k := k3) (by omega)
        obtain ⟨b, eb, hb⟩ := min_y (W := W) (v := v)
        refine ⟨p3, _, _, _, rfl, rfl, .of (kp12 p3 _ upd_same (D11.ne hp3)), atI_nat hv3, _, _, b, rfl, eb, ?_⟩
        -- for op in _law_pairs() + ['not', 'neg']
        refine ⟨rfl, fun p4 hp4 => ⟨(by show 2 ≤ sizeLine; decide), fun p5 hp5 => ?_⟩⟩
        have n45 : p4 ≠ p5 := ne_of_none upd_same hp5
        refine ⟨p4, p5, _, _, rfl, rfl, by rw [upd_ne n45]; exact upd_same, upd_same, (by show 12 ≤ sizeLine; decide), fun p6 hp6 => ⟨p6, rfl, ⟨_, .of upd_same⟩, ?_⟩⟩
        refine for_list (xs := twelve) (fun i σ H' => ∃ y2 y6 y7, σ = [some (.ref a), some (.ref d), y2, some (.int W), some (.int a0), some (.int b), y6, y7] ∧ Drd H' d c ms ∧ H' p6 = some (.lst twelve))
          ⟨_, _, _, rfl, ((D12.same (same_new hp4)).same (same_new hp5)).same (same_new hp6), upd_same⟩ ?_ ?_ ?_
        · rintro i σ H' _ ⟨y2, y6, y7, _, _, hq⟩
          exact .of hq
        · rintro i x σ H' hx ⟨y2, y6, y7, rfl, Dn, hq⟩
          obtain ⟨⟨op, g⟩, ho, rfl⟩ : ∃ p, ops[i]? = some p ∧ x = V.str p.1 := by
            rw [twelve_eq, List.getElem?_map] at hx
            cases e : ops[i]? with
            | none => rw [e] at hx; cases hx
            | some u => rw [e] at hx; exact ⟨u, rfl, (Option.some.inj hx).symm⟩
          have hm : (op, g) ∈ ops := List.mem_of_getElem? ho
          refine ⟨_, rfl, _, rfl, _, rfl, _, rfl, op, g, W, a0, b, rfl, hm, w1, w16, ha, hb, ?_⟩
          refine ⟨_, rfl, _, _, _, _, true, rfl, .ty "int", .base (.int _), kit_ty (by decide +kernel), _, rfl, iteF ?_⟩
          refine ⟨_, rfl, _, _, _, _, false, rfl, .ty "bool", .base (.int _), kit_ty (by decide +kernel), _, rfl, iteF ?_⟩
          refine ⟨_, rfl, _, rfl, _, rfl, _, rfl, _, rfl, op, g, W, a0, b, rfl, hm, w1, w16, ha, hb, fun H'' sm => ⟨rfl, _, rfl, iteNS rfl ?_⟩⟩
          exact ⟨_, _, _, rfl, Dn.same sm, sm _ _ hq⟩
        · rintro σ H' ⟨y2, y6, y7, rfl, Dn, _⟩
          exact ⟨_, _, _, _, _, _, rfl, Dn⟩
      · rintro σ H' _
        exact q H'
end
end K0

set_option Elab.async false
set_option linter.all false
set_option maxRecDepth 100000
set_option maxHeartbeats 2000000
namespace K0
open PySem L2
theorem all_mk {l : PySem.W.OpenLaw} {w : World} {K : PySem.W.Frag} {h : Heap} {mg : Str → Option Value} {fa pP pS dA f1 f2 f3 f4 f5 f6 f7 f8 f9 f10 f11 f12 f13 f14 f15 f16 f17 f18 f19 f20 f21 : Addr} (X : K.In h) (G : h.Ns mainGlobals mg) (hfa : mg "law" = some (.ref fa))
    {odP odS od1 an1 od2 an2 od3 an3 od4 an4 od5 an5 od6 an6 od7 an7 od8 an8 od9 an9 od10 an10 od11 an11 od12 an12 od13 an13 od14 an14 od15 an15 od16 an16 od17 an17 od18 an18 od19 an19 od20 an20 od21 an21 : Option Addr} {slP slS sl1 sl2 sl3 sl4 sl5 sl6 sl7 sl8 sl9 sl10 sl11 sl12 sl13 sl14 sl15 sl16 sl17 sl18 sl19 sl20 sl21 : Array (Option Value)} {oc1 kV1 dc1 pm1 cd1 ct1 oc2 kV2 dc2 pm2 cd2 ct2 oc3 kV3 dc3 pm3 cd3 ct3 oc4 kV4 dc4 pm4 cd4 ct4 oc5 kV5 dc5 pm5 cd5 ct5 oc6 kV6 dc6 pm6 cd6 ct6 oc7 kV7 dc7 pm7 cd7 ct7 oc8 kV8 dc8 pm8 cd8 ct8 oc9 kV9 dc9 pm9 cd9 ct9 oc10 kV10 dc10 pm10 cd10 ct10 oc11 kV11 dc11 pm11 cd11 ct11 oc12 kV12 dc12 pm12 cd12 ct12 oc13 kV13 dc13 pm13 cd13 ct13 oc14 kV14 dc14 pm14 cd14 ct14 oc15 kV15 dc15 pm15 cd15 ct15 oc16 kV16 dc16 pm16 cd16 ct16 oc17 kV17 dc17 pm17 cd17 ct17 oc18 kV18 dc18 pm18 cd18 ct18 oc19 kV19 dc19 pm19 cd19 ct19 oc20 kV20 dc20 pm20 cd20 ct20 oc21 kV21 dc21 pm21 cd21 ct21 : Value}
    {iP iS : Array Value} {nP nS nD : Nat} {es : Array DictEntry}
    (aD : PySem.W.nsIn K mainGlobals "_ACTIONS" = some (some (.ref dA))) (lD : K.lookup dA = some ⟨.type "dict", none, .dict es nD, #[]⟩) (kD : PySem.W.KeysLit w.params es.toList)
    (aP : PySem.W.nsIn K mainGlobals "PAIRS" = some (some (.ref pP))) (lP : K.lookup pP = some ⟨.type "tuple", odP, .seq iP nP, slP⟩) (vP : Vals ten iP.toList) (zP : iP.size ≤ sizeLine)
    (aS : PySem.W.nsIn K mainGlobals "SINGLES" = some (some (.ref pS))) (lS : K.lookup pS = some ⟨.type "tuple", odS, .seq iS nS, slS⟩) (vS : Vals [.str "not", .str "neg"] iS.toList) (zS : iS.size ≤ sizeLine)
    (a1 : PySem.W.nsIn K mainGlobals "top" = some (some (.ref f1))) (l1 : K.lookup f1 = some ⟨oc1, od1, .func (PySem.W.fnOf "top" "top" (defArgs sTop) (defBody sTop) (defScope sTop) .none kV1 dc1 pm1 an1 cd1 ct1), sl1⟩) (c1 : PySem.W.codeIn K cd1 "top" = true) (k1 : PySem.W.keepIn K (.ref f1) = true)
    (a2 : PySem.W.nsIn K mainGlobals "compute" = some (some (.ref f2))) (l2 : K.lookup f2 = some ⟨oc2, od2, .func (PySem.W.fnOf "compute" "compute" (defArgs sCompute) (defBody sCompute) (defScope sCompute) .none kV2 dc2 pm2 an2 cd2 ct2), sl2⟩) (c2 : PySem.W.codeIn K cd2 "compute" = true) (k2 : PySem.W.keepIn K (.ref f2) = true)
    (a3 : PySem.W.nsIn K mainGlobals "_law_draw" = some (some (.ref f3))) (l3 : K.lookup f3 = some ⟨oc3, od3, .func (PySem.W.fnOf "_law_draw" "_law_draw" (defArgs sDraw) (defBody sDraw) (defScope sDraw) .none kV3 dc3 pm3 an3 cd3 ct3), sl3⟩) (c3 : PySem.W.codeIn K cd3 "_law_draw" = true) (k3 : PySem.W.keepIn K (.ref f3) = true)
    (a4 : PySem.W.nsIn K mainGlobals "_law_take" = some (some (.ref f4))) (l4 : K.lookup f4 = some ⟨oc4, od4, .func (PySem.W.fnOf "_law_take" "_law_take" (defArgs sTake) (defBody sTake) (defScope sTake) .none kV4 dc4 pm4 an4 cd4 ct4), sl4⟩) (c4 : PySem.W.codeIn K cd4 "_law_take" = true) (k4 : PySem.W.keepIn K (.ref f4) = true)
    (a5 : PySem.W.nsIn K mainGlobals "_law_top" = some (some (.ref f5))) (l5 : K.lookup f5 = some ⟨oc5, od5, .func (PySem.W.fnOf "_law_top" "_law_top" (defArgs sLTop) (defBody sLTop) (defScope sLTop) .none kV5 dc5 pm5 an5 cd5 ct5), sl5⟩) (c5 : PySem.W.codeIn K cd5 "_law_top" = true) (k5 : PySem.W.keepIn K (.ref f5) = true)
    (a6 : PySem.W.nsIn K mainGlobals "_law_compute" = some (some (.ref f6))) (l6 : K.lookup f6 = some ⟨oc6, od6, .func (PySem.W.fnOf "_law_compute" "_law_compute" (defArgs sLComp) (defBody sLComp) (defScope sLComp) .none kV6 dc6 pm6 an6 cd6 ct6), sl6⟩) (c6 : PySem.W.codeIn K cd6 "_law_compute" = true) (k6 : PySem.W.keepIn K (.ref f6) = true)
    (a7 : PySem.W.nsIn K mainGlobals "_law_pairs" = some (some (.ref f7))) (l7 : K.lookup f7 = some ⟨oc7, od7, .func (PySem.W.fnOf "_law_pairs" "_law_pairs" (defArgs sPairs) (defBody sPairs) (defScope sPairs) .none kV7 dc7 pm7 an7 cd7 ct7), sl7⟩) (c7 : PySem.W.codeIn K cd7 "_law_pairs" = true) (k7 : PySem.W.keepIn K (.ref f7) = true)
    (a8 : PySem.W.nsIn K mainGlobals "_law_word" = some (some (.ref f8))) (l8 : K.lookup f8 = some ⟨oc8, od8, .func (PySem.W.fnOf "_law_word" "_law_word" (defArgs sWord) (defBody sWord) (defScope sWord) .none kV8 dc8 pm8 an8 cd8 ct8), sl8⟩) (c8 : PySem.W.codeIn K cd8 "_law_word" = true) (k8 : PySem.W.keepIn K (.ref f8) = true)
    (a9 : PySem.W.nsIn K mainGlobals "law" = some (some (.ref f9))) (l9 : K.lookup f9 = some ⟨oc9, od9, .func (PySem.W.fnOf "law" "law" (defArgs sLaw) (defBody sLaw) (defScope sLaw) .none kV9 dc9 pm9 an9 cd9 ct9), sl9⟩) (c9 : PySem.W.codeIn K cd9 "law" = true) (k9 : PySem.W.keepIn K (.ref f9) = true)
    (a10 : PySem.W.nsIn K dA "add" = some (some (.ref f10))) (l10 : K.lookup f10 = some ⟨oc10, od10, .func (PySem.W.fnOf "_add" "_add" (defArgs sAdd) (defBody sAdd) (defScope sAdd) .none kV10 dc10 pm10 an10 cd10 ct10), sl10⟩) (c10 : PySem.W.codeIn K cd10 "_add" = true) (k10 : PySem.W.keepIn K (.ref f10) = true)
    (a11 : PySem.W.nsIn K dA "sub" = some (some (.ref f11))) (l11 : K.lookup f11 = some ⟨oc11, od11, .func (PySem.W.fnOf "_sub" "_sub" (defArgs sSub) (defBody sSub) (defScope sSub) .none kV11 dc11 pm11 an11 cd11 ct11), sl11⟩) (c11 : PySem.W.codeIn K cd11 "_sub" = true) (k11 : PySem.W.keepIn K (.ref f11) = true)
    (a12 : PySem.W.nsIn K dA "mul" = some (some (.ref f12))) (l12 : K.lookup f12 = some ⟨oc12, od12, .func (PySem.W.fnOf "_mul" "_mul" (defArgs sMul) (defBody sMul) (defScope sMul) .none kV12 dc12 pm12 an12 cd12 ct12), sl12⟩) (c12 : PySem.W.codeIn K cd12 "_mul" = true) (k12 : PySem.W.keepIn K (.ref f12) = true)
    (a13 : PySem.W.nsIn K dA "and" = some (some (.ref f13))) (l13 : K.lookup f13 = some ⟨oc13, od13, .func (PySem.W.fnOf "_and" "_and" (defArgs sAnd) (defBody sAnd) (defScope sAnd) .none kV13 dc13 pm13 an13 cd13 ct13), sl13⟩) (c13 : PySem.W.codeIn K cd13 "_and" = true) (k13 : PySem.W.keepIn K (.ref f13) = true)
    (a14 : PySem.W.nsIn K dA "or" = some (some (.ref f14))) (l14 : K.lookup f14 = some ⟨oc14, od14, .func (PySem.W.fnOf "_or" "_or" (defArgs sOr) (defBody sOr) (defScope sOr) .none kV14 dc14 pm14 an14 cd14 ct14), sl14⟩) (c14 : PySem.W.codeIn K cd14 "_or" = true) (k14 : PySem.W.keepIn K (.ref f14) = true)
    (a15 : PySem.W.nsIn K dA "xor" = some (some (.ref f15))) (l15 : K.lookup f15 = some ⟨oc15, od15, .func (PySem.W.fnOf "_xor" "_xor" (defArgs sXor) (defBody sXor) (defScope sXor) .none kV15 dc15 pm15 an15 cd15 ct15), sl15⟩) (c15 : PySem.W.codeIn K cd15 "_xor" = true) (k15 : PySem.W.keepIn K (.ref f15) = true)
    (a16 : PySem.W.nsIn K dA "shl" = some (some (.ref f16))) (l16 : K.lookup f16 = some ⟨oc16, od16, .func (PySem.W.fnOf "_shl" "_shl" (defArgs sShl) (defBody sShl) (defScope sShl) .none kV16 dc16 pm16 an16 cd16 ct16), sl16⟩) (c16 : PySem.W.codeIn K cd16 "_shl" = true) (k16 : PySem.W.keepIn K (.ref f16) = true)
    (a17 : PySem.W.nsIn K dA "shr" = some (some (.ref f17))) (l17 : K.lookup f17 = some ⟨oc17, od17, .func (PySem.W.fnOf "_shr" "_shr" (defArgs sShr) (defBody sShr) (defScope sShr) .none kV17 dc17 pm17 an17 cd17 ct17), sl17⟩) (c17 : PySem.W.codeIn K cd17 "_shr" = true) (k17 : PySem.W.keepIn K (.ref f17) = true)
    (a18 : PySem.W.nsIn K dA "less" = some (some (.ref f18))) (l18 : K.lookup f18 = some ⟨oc18, od18, .func (PySem.W.fnOf "_less" "_less" (defArgs sLess) (defBody sLess) (defScope sLess) .none kV18 dc18 pm18 an18 cd18 ct18), sl18⟩) (c18 : PySem.W.codeIn K cd18 "_less" = true) (k18 : PySem.W.keepIn K (.ref f18) = true)
    (a19 : PySem.W.nsIn K dA "equal" = some (some (.ref f19))) (l19 : K.lookup f19 = some ⟨oc19, od19, .func (PySem.W.fnOf "_equal" "_equal" (defArgs sEqual) (defBody sEqual) (defScope sEqual) .none kV19 dc19 pm19 an19 cd19 ct19), sl19⟩) (c19 : PySem.W.codeIn K cd19 "_equal" = true) (k19 : PySem.W.keepIn K (.ref f19) = true)
    (a20 : PySem.W.nsIn K dA "not" = some (some (.ref f20))) (l20 : K.lookup f20 = some ⟨oc20, od20, .func (PySem.W.fnOf "_not" "_not" (defArgs sNot) (defBody sNot) (defScope sNot) .none kV20 dc20 pm20 an20 cd20 ct20), sl20⟩) (c20 : PySem.W.codeIn K cd20 "_not" = true) (k20 : PySem.W.keepIn K (.ref f20) = true)
    (a21 : PySem.W.nsIn K dA "neg" = some (some (.ref f21))) (l21 : K.lookup f21 = some ⟨oc21, od21, .func (PySem.W.fnOf "_neg" "_neg" (defArgs sNeg) (defBody sNeg) (defScope sNeg) .none kV21 dc21 pm21 an21 cd21 ct21), sl21⟩) (c21 : PySem.W.codeIn K cd21 "_neg" = true) (k21 : PySem.W.keepIn K (.ref f21) = true)
    (z_len : PySem.W.nsIn K mainGlobals "len" = some none)
    (z_int : PySem.W.nsIn K mainGlobals "int" = some none)
    (z_abs : PySem.W.nsIn K mainGlobals "abs" = some none)
    (z_range : PySem.W.nsIn K mainGlobals "range" = some none)
    (z_min : PySem.W.nsIn K mainGlobals "min" = some none)
    (z_list : PySem.W.nsIn K mainGlobals "list" = some none)
    (z_tuple : PySem.W.nsIn K mainGlobals "tuple" = some none)
    (z_isinstance : PySem.W.nsIn K mainGlobals "isinstance" = some none)
    (z_bool : PySem.W.nsIn K mainGlobals "bool" = some none) :
    ∃ fd : FuncData, (∀ (s : Shared) (v : Value), BindsTo s fd ⟨[v], []⟩ [("script", v)]) ∧ ∀ base : Heap, K.In base → base.Ns mainGlobals mg → FnOk l.prog w K mg base CX0 4 fa fd ["script"] (spLaw K) := by
  have e := hfa.symm.trans (PySem.W.mg_of X G a9)
  cases e
  have F1 := fun_mk (st := sTop) l1 c1 k1
  have b1 := F1.binds (ps := ["w"]) fun _ _ _ _ _ _ us hl => match us, hl with | [_], _ => rfl
  have m1 := PySem.W.mg_of X G a1
  have F2 := fun_mk (st := sCompute) l2 c2 k2
  have b2 := F2.binds (ps := ["op", "w", "x", "y"]) fun _ _ _ _ _ _ us hl => match us, hl with | [_, _, _, _], _ => rfl
  have m2 := PySem.W.mg_of X G a2
  have F3 := fun_mk (st := sDraw) l3 c3 k3
  have b3 := F3.binds (ps := ["script"]) fun _ _ _ _ _ _ us hl => match us, hl with | [_], _ => rfl
  have m3 := PySem.W.mg_of X G a3
  have F4 := fun_mk (st := sTake) l4 c4 k4
  have b4 := F4.binds (ps := ["draw", "many"]) fun _ _ _ _ _ _ us hl => match us, hl with | [_, _], _ => rfl
  have m4 := PySem.W.mg_of X G a4
  have F5 := fun_mk (st := sLTop) l5 c5 k5
  have b5 := F5.binds (ps := ["w"]) fun _ _ _ _ _ _ us hl => match us, hl with | [_], _ => rfl
  have m5 := PySem.W.mg_of X G a5
  have F6 := fun_mk (st := sLComp) l6 c6 k6
  have b6 := F6.binds (ps := ["op", "w", "x", "y"]) fun _ _ _ _ _ _ us hl => match us, hl with | [_, _, _, _], _ => rfl
  have m6 := PySem.W.mg_of X G a6
  have F7 := fun_mk (st := sPairs) l7 c7 k7
  have b7 := F7.binds (ps := []) fun _ _ _ _ _ _ us hl => match us, hl with | [], _ => rfl
  have m7 := PySem.W.mg_of X G a7
  have F8 := fun_mk (st := sWord) l8 c8 k8
  have b8 := F8.binds (ps := ["draw", "w"]) fun _ _ _ _ _ _ us hl => match us, hl with | [_, _], _ => rfl
  have m8 := PySem.W.mg_of X G a8
  have F9 := fun_mk (st := sLaw) l9 c9 k9
  have m9 := PySem.W.mg_of X G a9
  have F10 := fun_mk (st := sAdd) l10 c10 k10
  have b10 := F10.binds (ps := ["w", "x", "y"]) fun _ _ _ _ _ _ us hl => match us, hl with | [_, _, _], _ => rfl
  have F11 := fun_mk (st := sSub) l11 c11 k11
  have b11 := F11.binds (ps := ["w", "x", "y"]) fun _ _ _ _ _ _ us hl => match us, hl with | [_, _, _], _ => rfl
  have F12 := fun_mk (st := sMul) l12 c12 k12
  have b12 := F12.binds (ps := ["w", "x", "y"]) fun _ _ _ _ _ _ us hl => match us, hl with | [_, _, _], _ => rfl
  have F13 := fun_mk (st := sAnd) l13 c13 k13
  have b13 := F13.binds (ps := ["_", "x", "y"]) fun _ _ _ _ _ _ us hl => match us, hl with | [_, _, _], _ => rfl
  have F14 := fun_mk (st := sOr) l14 c14 k14
  have b14 := F14.binds (ps := ["_", "x", "y"]) fun _ _ _ _ _ _ us hl => match us, hl with | [_, _, _], _ => rfl
  have F15 := fun_mk (st := sXor) l15 c15 k15
  have b15 := F15.binds (ps := ["_", "x", "y"]) fun _ _ _ _ _ _ us hl => match us, hl with | [_, _, _], _ => rfl
  have F16 := fun_mk (st := sShl) l16 c16 k16
  have b16 := F16.binds (ps := ["w", "x", "y"]) fun _ _ _ _ _ _ us hl => match us, hl with | [_, _, _], _ => rfl
  have F17 := fun_mk (st := sShr) l17 c17 k17
  have b17 := F17.binds (ps := ["w", "x", "y"]) fun _ _ _ _ _ _ us hl => match us, hl with | [_, _, _], _ => rfl
  have F18 := fun_mk (st := sLess) l18 c18 k18
  have b18 := F18.binds (ps := ["_", "x", "y"]) fun _ _ _ _ _ _ us hl => match us, hl with | [_, _, _], _ => rfl
  have F19 := fun_mk (st := sEqual) l19 c19 k19
  have b19 := F19.binds (ps := ["_", "x", "y"]) fun _ _ _ _ _ _ us hl => match us, hl with | [_, _, _], _ => rfl
  have F20 := fun_mk (st := sNot) l20 c20 k20
  have b20 := F20.binds (ps := ["w", "x", "_"]) fun _ _ _ _ _ _ us hl => match us, hl with | [_, _, _], _ => rfl
  have F21 := fun_mk (st := sNeg) l21 c21 k21
  have b21 := F21.binds (ps := ["w", "x", "_"]) fun _ _ _ _ _ _ us hl => match us, hl with | [_, _, _], _ => rfl
  have n_len := PySem.W.mg_none_of X G z_len
  have n_int := PySem.W.mg_none_of X G z_int
  have n_abs := PySem.W.mg_none_of X G z_abs
  have n_range := PySem.W.mg_none_of X G z_range
  have n_min := PySem.W.mg_none_of X G z_min
  have n_list := PySem.W.mg_none_of X G z_list
  have n_tuple := PySem.W.mg_none_of X G z_tuple
  have n_isinstance := PySem.W.mg_none_of X G z_isinstance
  have n_bool := PySem.W.mg_none_of X G z_bool
  have NN : Names K mg pP pS := ⟨PySem.W.mg_of X G aP, PySem.W.mg_of X G aS, fun H => .inr ⟨_, iP, nP, lP, rfl, rfl, zP, vP⟩, fun H => .inr ⟨_, iS, nS, lS, rfl, rfl, zS, vS⟩, n_list, n_tuple, n_range, n_min, n_isinstance, n_int, n_bool⟩
  refine ⟨_, fun s v => ?_, fun base _ _ => ok_law F9 NN ⟨⟨f3, _, ok_draw F3 n_int n_abs, m3, k3, b3⟩⟩ ⟨⟨f4, _, ok_take F4 n_len n_int, m4, k4, b4⟩⟩
    ⟨⟨f8, _, ok_word F8 n_int n_min ⟨⟨f4, _, ok_take F4 n_len n_int, m4, k4, b4⟩⟩ ⟨⟨f5, _, ok_ltop F5, m5, k5, b5⟩⟩, m8, k8, b8⟩⟩
    ⟨⟨f7, _, ok_pairs F7, m7, k7, b7⟩⟩ ⟨⟨f1, _, ok_top F1, m1, k1, b1⟩⟩ ⟨⟨f5, _, ok_ltop F5, m5, k5, b5⟩⟩
    ⟨⟨f2, _, ok_compute F2 (PySem.W.mg_of X G aD) (fun op g ho => ?_), m2, k2, b2⟩⟩ ⟨⟨f6, _, ok_lc F6 n_range, m6, k6, b6⟩⟩⟩
  · exact .of_eq rfl
  · have T : TopF l.prog w K mg base "top" := ⟨⟨f1, _, ok_top F1, m1, k1, b1⟩⟩
    have ho2 := ho
    simp only [ops, List.mem_cons, List.not_mem_nil, or_false, Prod.mk.injEq] at ho2
    rcases ho2 with ⟨rfl, rfl⟩ | ⟨rfl, rfl⟩ | ⟨rfl, rfl⟩ | ⟨rfl, rfl⟩ | ⟨rfl, rfl⟩ | ⟨rfl, rfl⟩ | ⟨rfl, rfl⟩ | ⟨rfl, rfl⟩ | ⟨rfl, rfl⟩ | ⟨rfl, rfl⟩ | ⟨rfl, rfl⟩ | ⟨rfl, rfl⟩
    · exact ⟨f10, _, _, ⟨es, nD, .ref f10, lD, kD, a10, rfl⟩, ok_add T F10, k10, b10⟩
    · exact ⟨f11, _, _, ⟨es, nD, .ref f11, lD, kD, a11, rfl⟩, ok_sub T F11, k11, b11⟩
    · exact ⟨f12, _, _, ⟨es, nD, .ref f12, lD, kD, a12, rfl⟩, ok_mul T F12, k12, b12⟩
    · exact ⟨f13, _, _, ⟨es, nD, .ref f13, lD, kD, a13, rfl⟩, ok_and F13, k13, b13⟩
    · exact ⟨f14, _, _, ⟨es, nD, .ref f14, lD, kD, a14, rfl⟩, ok_or F14, k14, b14⟩
    · exact ⟨f15, _, _, ⟨es, nD, .ref f15, lD, kD, a15, rfl⟩, ok_xor F15, k15, b15⟩
    · exact ⟨f16, _, _, ⟨es, nD, .ref f16, lD, kD, a16, rfl⟩, ok_shl T F16, k16, b16⟩
    · exact ⟨f17, _, _, ⟨es, nD, .ref f17, lD, kD, a17, rfl⟩, ok_shr F17, k17, b17⟩
    · exact ⟨f18, _, _, ⟨es, nD, .ref f18, lD, kD, a18, rfl⟩, ok_less F18, k18, b18⟩
    · exact ⟨f19, _, _, ⟨es, nD, .ref f19, lD, kD, a19, rfl⟩, ok_equal F19, k19, b19⟩
    · exact ⟨f20, _, _, ⟨es, nD, .ref f20, lD, kD, a20, rfl⟩, ok_not T F20, k20, b20⟩
    · exact ⟨f21, _, _, ⟨es, nD, .ref f21, lD, kD, a21, rfl⟩, ok_neg T F21, k21, b21⟩
end K0

set_option Elab.async false
set_option linter.all false

open PySem PySem.W PyProof.Rows in
set_option maxRecDepth 100000 in
set_option maxHeartbeats 0 in
theorem PySem.Challenge.cw_leasttiles_k00_words_reckoned_holds : PySem.Challenge.rw_leasttiles_k00_words_reckoned.Holds := by
  w_on; o_law; k_head; (case hw => w_witness2)
  k_fill
  refine L2.walk_of (l := PySem.Challenge.rw_leasttiles_k00_words_reckoned) (n := 63) (k := 4) (x := "script") (CX := fun _ => L2.CX0) (sp := fun w => K0.spLaw _) rfl (by decide) rfl ⟨rfl, by decide, by decide⟩ (fun w h Y => PySem.W.kIn_of Y) ?F (fun _ _ a ns hl _ hS => ⟨a, ns, rfl, hS, hl, fun _ => rfl⟩) (fun _ _ _ _ _ h => h)
  case F =>
    intro w mg fa h KX G hmg
    refine' K0.all_mk KX G hmg ?aD ?lD ?kD ?aP ?lP ?vP ?zP ?aS ?lS ?vS ?zS ?a1 ?l1 ?c1 ?k1 ?a2 ?l2 ?c2 ?k2 ?a3 ?l3 ?c3 ?k3 ?a4 ?l4 ?c4 ?k4 ?a5 ?l5 ?c5 ?k5 ?a6 ?l6 ?c6 ?k6 ?a7 ?l7 ?c7 ?k7 ?a8 ?l8 ?c8 ?k8 ?a9 ?l9 ?c9 ?k9 ?a10 ?l10 ?c10 ?k10 ?a11 ?l11 ?c11 ?k11 ?a12 ?l12 ?c12 ?k12 ?a13 ?l13 ?c13 ?k13 ?a14 ?l14 ?c14 ?k14 ?a15 ?l15 ?c15 ?k15 ?a16 ?l16 ?c16 ?k16 ?a17 ?l17 ?c17 ?k17 ?a18 ?l18 ?c18 ?k18 ?a19 ?l19 ?c19 ?k19 ?a20 ?l20 ?c20 ?k20 ?a21 ?l21 ?c21 ?k21 ?z_len ?z_int ?z_abs ?z_range ?z_min ?z_list ?z_tuple ?z_isinstance ?z_bool
    (case aD => k_is)
    (case lD => k_is)
    (case kD => k_keys)
    (case aP => k_is)
    (case lP => k_is)
    (case vP => first | (repeat' (first | exact .nil | refine .cons ⟨_, rfl⟩ ?_)))
    (case zP => decide)
    (case aS => k_is)
    (case lS => k_is)
    (case vS => first | (repeat' (first | exact .nil | refine .cons ⟨_, rfl⟩ ?_)))
    (case zS => decide)
    (case a1 => k_is)
    (case l1 => k_is)
    (case c1 => k_is)
    (case k1 => k_is)
    (case a2 => k_is)
    (case l2 => k_is)
    (case c2 => k_is)
    (case k2 => k_is)
    (case a3 => k_is)
    (case l3 => k_is)
    (case c3 => k_is)
    (case k3 => k_is)
    (case a4 => k_is)
    (case l4 => k_is)
    (case c4 => k_is)
    (case k4 => k_is)
    (case a5 => k_is)
    (case l5 => k_is)
    (case c5 => k_is)
    (case k5 => k_is)
    (case a6 => k_is)
    (case l6 => k_is)
    (case c6 => k_is)
    (case k6 => k_is)
    (case a7 => k_is)
    (case l7 => k_is)
    (case c7 => k_is)
    (case k7 => k_is)
    (case a8 => k_is)
    (case l8 => k_is)
    (case c8 => k_is)
    (case k8 => k_is)
    (case a9 => k_is)
    (case l9 => k_is)
    (case c9 => k_is)
    (case k9 => k_is)
    (case a10 => k_is)
    (case l10 => k_is)
    (case c10 => k_is)
    (case k10 => k_is)
    (case a11 => k_is)
    (case l11 => k_is)
    (case c11 => k_is)
    (case k11 => k_is)
    (case a12 => k_is)
    (case l12 => k_is)
    (case c12 => k_is)
    (case k12 => k_is)
    (case a13 => k_is)
    (case l13 => k_is)
    (case c13 => k_is)
    (case k13 => k_is)
    (case a14 => k_is)
    (case l14 => k_is)
    (case c14 => k_is)
    (case k14 => k_is)
    (case a15 => k_is)
    (case l15 => k_is)
    (case c15 => k_is)
    (case k15 => k_is)
    (case a16 => k_is)
    (case l16 => k_is)
    (case c16 => k_is)
    (case k16 => k_is)
    (case a17 => k_is)
    (case l17 => k_is)
    (case c17 => k_is)
    (case k17 => k_is)
    (case a18 => k_is)
    (case l18 => k_is)
    (case c18 => k_is)
    (case k18 => k_is)
    (case a19 => k_is)
    (case l19 => k_is)
    (case c19 => k_is)
    (case k19 => k_is)
    (case a20 => k_is)
    (case l20 => k_is)
    (case c20 => k_is)
    (case k20 => k_is)
    (case a21 => k_is)
    (case l21 => k_is)
    (case c21 => k_is)
    (case k21 => k_is)
    (case z_len => k_is)
    (case z_int => k_is)
    (case z_abs => k_is)
    (case z_range => k_is)
    (case z_min => k_is)
    (case z_list => k_is)
    (case z_tuple => k_is)
    (case z_isinstance => k_is)
    (case z_bool => k_is)
