import PyProof.Rows.All
import Wide.All
import OpenK.AllK
import Wide.FinOn
import HandS.Text
import HandS.ForMost
import HandS.Codes
import HandS.More
import HandS.IsInst
import HandS.CallLocal
import HandS.DictComp
import HandS.Conv
import HandS.SortInts
import HandS.Zip
import HandS.Star
import HandS.Walk
import HandS.TupAny
import HandS.ForExc
import HandS.Comp
import HandS.AnyAll
import HandS.GenList
import HandS.Iter
import KE.GoesMore
import HandS.Words
import HandS.EndTab
import KE.SortData
import HandS.SortRule
import HandS.Deep
import HandS.SetFor
import KE.DatumOrd
import HandS.Small
import PySem.Challenge.RW_leasttiles_k01_faults_of_functions
set_option Elab.async false
set_option maxHeartbeats 4000000
namespace K0
open PySem PyProof.Rows PySem.W
theorem one_pow (W : Nat) : (1 : Int) * 2 ^ ((W : Int)).toNat = 2 ^ W := by
  rw [Int.toNat_natCast, Int.one_mul]
theorem pow_pos (W : Nat) : (0 : Int) < 2 ^ W := Int.pow_pos (by decide)
theorem pow_cast (W : Nat) : ((2 ^ W : Nat) : Int) = 2 ^ W := by
  rw [Int.natCast_pow]; rfl
theorem pow_le16 {W : Nat} (h : W ≤ 16) : (2 : Int) ^ W ≤ 65536 := by
  have h1 : (2 : Nat) ^ W ≤ 2 ^ 16 := Nat.pow_le_pow_right (by decide) h
  have h2 : ((2 ^ W : Nat) : Int) ≤ ((2 ^ 16 : Nat) : Int) := Int.ofNat_le.mpr h1
  rw [pow_cast, pow_cast] at h2
  exact h2
theorem wrap {z S : Int} (h0 : S ≤ z) (h1 : z < S + S) : z % S = z - S := by
  have e : z = (z - S) + S * 1 := by omega
  rw [e, Int.add_mul_emod_self_left, Int.emod_eq_of_lt (by omega) (by omega)]
  omega
theorem wrap' {z S : Int} (h0 : -S ≤ z) (h1 : z < 0) : z % S = z + S := by
  have e : z = (z + S) + S * (-1) := by omega
  rw [e, Int.add_mul_emod_self_left, Int.emod_eq_of_lt (by omega) (by omega)]
  omega
theorem rest_eq (z S : Int) : z - z / S * S = z % S := by
  rw [Int.emod_def, Int.mul_comm]
/-! bits -/
theorem bits_step (n i : Nat) : n % 2 ^ (i + 1) = n % 2 ^ i + n / 2 ^ i % 2 * 2 ^ i := by
  rw [Nat.mod_pow_succ, Nat.mul_comm]
theorem bit_tb (n i : Nat) : n.testBit i = decide (n / 2 ^ i % 2 = 1) := Nat.testBit_eq_decide_div_mod_eq
theorem bit_of (n i : Nat) : n / 2 ^ i % 2 = if n.testBit i then 1 else 0 := by
  rw [bit_tb]
  have := Nat.mod_two_eq_zero_or_one (n / 2 ^ i)
  rcases this with h | h <;> simp [h]
/-- one of the three ops, bit by bit -/
def hit (op : Nat) (both : Int) : Bool := if op = 0 then both == 2 else if op = 1 then decide (0 < both) else both == 1
def bop (op : Nat) (a b : Nat) : Nat := if op = 0 then a &&& b else if op = 1 then a ||| b else a ^^^ b
def both (x y : Int) (i : Nat) : Int := x / 2 ^ i % 2 + y / 2 ^ i % 2
theorem cast_bit (a i : Nat) : ((a : Nat) : Int) / 2 ^ i % 2 = ((a / 2 ^ i % 2 : Nat) : Int) := by
  rw [Int.natCast_emod, Int.natCast_ediv, pow_cast]; rfl
theorem hit_bit (op a b i : Nat) : hit op (both (a : Int) (b : Int) i) = (bop op a b).testBit i := by
  unfold hit both bop
  rw [cast_bit, cast_bit, bit_of, bit_of]
  by_cases h0 : op = 0
  · simp only [h0, if_true]
    rw [Nat.testBit_and]
    cases a.testBit i <;> cases b.testBit i <;> simp
  · by_cases h1 : op = 1
    · subst h1
      rw [if_neg h0, if_neg h0, if_pos rfl, if_pos rfl, Nat.testBit_or]
      cases a.testBit i <;> cases b.testBit i <;> simp
    · rw [if_neg h0, if_neg h0, if_neg h1, if_neg h1, Nat.testBit_xor]
      cases a.testBit i <;> cases b.testBit i <;> simp
theorem hit_step (op a b i : Nat) : ((bop op a b % 2 ^ (i + 1) : Nat) : Int) = if hit op (both (a : Int) (b : Int) i) = true then ((bop op a b % 2 ^ i : Nat) : Int) + 2 ^ i else ((bop op a b % 2 ^ i : Nat) : Int) := by
  rw [bits_step, bit_of, hit_bit]
  by_cases h : (bop op a b).testBit i = true
  · rw [if_pos h, if_pos h, Int.natCast_add, Nat.one_mul, pow_cast]
  · rw [if_neg h, if_neg h, Nat.zero_mul, Nat.add_zero]
theorem bop_lt {op a b W : Nat} (ha : a < 2 ^ W) (hb : b < 2 ^ W) : bop op a b < 2 ^ W := by
  unfold bop
  split
  · exact Nat.and_lt_two_pow a hb
  · split
    · exact Nat.or_lt_two_pow ha hb
    · exact Nat.xor_lt_two_pow ha hb
theorem bop_mod {op a b W : Nat} (ha : a < 2 ^ W) (hb : b < 2 ^ W) : bop op a b % 2 ^ W = bop op a b := Nat.mod_eq_of_lt (bop_lt ha hb)
theorem and_cast (a b : Nat) : Builtin.bitAnd (a : Int) (b : Int) = ((bop 0 a b : Nat) : Int) := by
  rw [bitAnd_pp (Int.natCast_nonneg _) (Int.natCast_nonneg _)]; rfl
theorem or_cast (a b : Nat) : Builtin.bitOr (a : Int) (b : Int) = ((bop 1 a b : Nat) : Int) := by
  rw [Bits.bitOr_pp (Int.natCast_nonneg _) (Int.natCast_nonneg _)]; rfl
theorem xor_cast (a b : Nat) : Builtin.bitXor (a : Int) (b : Int) = ((bop 2 a b : Nat) : Int) := by
  rw [Bits.bitXor_pp (Int.natCast_nonneg _) (Int.natCast_nonneg _)]; rfl
theorem not_cast {a W : Nat} (h : a < 2 ^ W) : Builtin.bitXor (a : Int) (2 ^ W - 1) = 2 ^ W - 1 - (a : Int) := by
  rw [bitXor_and, kbt_mask, Int.emod_eq_of_lt (Int.natCast_nonneg _) (by rw [← pow_cast]; exact Int.ofNat_lt.mpr h)]
  omega
end K0

set_option Elab.async false
set_option linter.all false
set_option maxRecDepth 100000
set_option maxHeartbeats 4000000
namespace K0
open PySem L2
def tp (i : Nat) : Stmt := PySem.Challenge.pw_leasttiles_k01_faults_of_functions.main.body.getD i (.Pass ⟨0, 0, 0, 0⟩)
abbrev sWi : Stmt := tp 1
abbrev sRo : Stmt := tp 2
abbrev sTop : Stmt := tp 6
abbrev sWd : Stmt := tp 14
abbrev sIsE : Stmt := tp 15
abbrev sIsS : Stmt := tp 16
abbrev sIsL : Stmt := tp 17
abbrev sIsEnd : Stmt := tp 18
abbrev sHBF : Stmt := tp 19
abbrev sHF : Stmt := tp 20
abbrev sBF : Stmt := tp 21
abbrev sFF : Stmt := tp 22
abbrev sSucc : Stmt := tp 23
abbrev sDraw : Stmt := tp 25
abbrev sTake : Stmt := tp 26
abbrev sLTop : Stmt := tp 27
abbrev sLComp : Stmt := tp 28
abbrev sPairs : Stmt := tp 29
abbrev sWord : Stmt := tp 30
abbrev sExpr : Stmt := tp 31
abbrev sStmt : Stmt := tp 32
abbrev sFun : Stmt := tp 33
abbrev sRule : Stmt := tp 34
abbrev sMach : Stmt := tp 35
abbrev sTied : Stmt := tp 36
abbrev sInputs : Stmt := tp 37
abbrev sLIn : Stmt := tp 38
abbrev sLIsE : Stmt := tp 39
abbrev sLIsS : Stmt := tp 40
abbrev sLTg : Stmt := tp 41
abbrev sLIsB : Stmt := tp 42
abbrev sLDue : Stmt := tp 43
abbrev sLWr : Stmt := tp 44
abbrev sLBent : Stmt := tp 45
abbrev sLaw : Stmt := tp 46
end K0

set_option Elab.async false
set_option linter.all false
set_option maxRecDepth 100000
set_option maxHeartbeats 4000000
namespace K0
open PySem L2
/-! the answers -/
abbrev G := Nat → Nat → Nat → Int
def gAdd : G := fun W a b => ((a : Int) + b) % 2 ^ W
def gSub : G := fun W a b => ((a : Int) - b) % 2 ^ W
def gMul : G := fun W a b => ((a : Int) * b) % 2 ^ W
def gAnd : G := fun _ a b => ((bop 0 a b : Nat) : Int)
def gOr : G := fun _ a b => ((bop 1 a b : Nat) : Int)
def gXor : G := fun _ a b => ((bop 2 a b : Nat) : Int)
def gShl : G := fun W a b => if (W : Int) ≤ b then 0 else ((a : Int) * 2 ^ b) % 2 ^ W
def gShr : G := fun W a b => if (W : Int) ≤ b then 0 else (a : Int) / 2 ^ b
def gLess : G := fun _ a b => if (a : Int) < b then 1 else 0
def gEqual : G := fun _ a b => if (a : Int) = b then 1 else 0
def gNot : G := fun W a _ => 2 ^ W - 1 - (a : Int)
def gNeg : G := fun W a _ => (-(a : Int)) % 2 ^ W
def ops : List (Str × G) := [("add", gAdd), ("sub", gSub), ("mul", gMul), ("and", gAnd), ("or", gOr), ("xor", gXor), ("shl", gShl), ("shr", gShr), ("less", gLess), ("equal", gEqual), ("not", gNot), ("neg", gNeg)]
theorem ops_nd : (ops.map (·.1)).Nodup := by decide +kernel
theorem pick {op op' : Str} {g g' : G} (h : (op, g) ∈ ops) (k : Nat) (hk : ops[k]? = some (op', g')) (e : op = op') : g = g' := by
  subst e
  obtain ⟨i, hi⟩ := List.mem_iff_getElem?.mp h
  have e1 : (ops.map (·.1))[i]? = some op := by rw [List.getElem?_map, hi]; rfl
  have e2 : (ops.map (·.1))[k]? = some op := by rw [List.getElem?_map, hk]; rfl
  have hik : i = k := nodup_ix ops_nd e1 e2
  subst hik
  rw [hi] at hk
  exact (Prod.mk.inj (Option.some.inj hk)).2
/-! promises -/
def spTop : Sp := fun vs H Q _ => ∃ W : Nat, vs = [.int W] ∧ W ≤ 16 ∧ Q (.int (2 ^ W - 1)) H
def spAct (g : G) : Sp := fun vs H Q _ => ∃ W a b : Nat, vs = [.int W, .int a, .int b] ∧ 1 ≤ W ∧ W ≤ 16 ∧ a < 2 ^ W ∧ b < 2 ^ W ∧ Q (.int (g W a b)) H
section
variable {P : Program} {w : World} {K : PySem.W.Frag} {mg : Str → Option Value} {base : Heap}
theorem scLTop : FnScope ["w"] ["w"] (defScope sLTop) := ⟨rfl, rfl, rfl, by decide +kernel, rfl, by decide +kernel, by decide +kernel⟩
theorem ok_ltop {f : Addr} {fd : FuncData} (F : Fun K "_law_top" "_law_top" sLTop f fd) : FnOk P w K mg base CX0 1 f fd ["w"] spTop := by
  refine F.ok scLTop (fun vs H Q E h => ?_) (fun cdv A outer s H vs Q E hr h => ?_)
  · obtain ⟨W, rfl, _⟩ := h
    rfl
  · obtain ⟨W, rfl, hW, q⟩ := h
    refine ⟨_, pss_one (ps_ret (pe_op op_sub (pe_op op_shl pe_int (pv 0)) pe_int)), ?_⟩
    refine ⟨_, rfl, 1, W, rfl, rfl, ⟨by omega, by omega, by decide⟩, _, _, rfl, rfl, ?_⟩
    rw [one_pow]
    exact q
theorem below {a W : Nat} (h : a < 2 ^ W) (hW : W ≤ 16) : (a : Int) < 65536 := by
  have h1 : (2 : Nat) ^ W ≤ 2 ^ 16 := Nat.pow_le_pow_right (by decide) hW
  have h2 : (2 : Nat) ^ 16 = 65536 := by decide
  omega
end
end K0

set_option Elab.async false
set_option linter.all false
set_option maxRecDepth 100000
set_option maxHeartbeats 4000000
namespace K0
open PySem L2
theorem and_val {A B : TT} {σ : St} {H : Hp} {cA cB : Bool} (hA : ∀ Q : Bool → Hp → Prop, Q cA H → A σ H Q) (hB : ∀ Q : Bool → Hp → Prop, Q cB H → B σ H Q) : ∀ Q : Bool → Hp → Prop, Q (cA && cB) H → tAnd A B σ H Q := by
  intro Q q
  refine hA _ ?_
  cases cA with
  | true => exact iteT (hB _ q)
  | false => exact iteF q
theorem or_val {A B : TT} {σ : St} {H : Hp} {cA cB : Bool} (hA : ∀ Q : Bool → Hp → Prop, Q cA H → A σ H Q) (hB : ∀ Q : Bool → Hp → Prop, Q cB H → B σ H Q) : ∀ Q : Bool → Hp → Prop, Q (cA || cB) H → tOr A B σ H Q := by
  intro Q q
  refine hA _ ?_
  cases cA with
  | true => exact iteT q
  | false => exact iteF (hB _ q)
theorem str_of {a b : Str} (e : decide (V.str a = V.str b) = true) : a = b := V.str.inj (of_decide_eq_true e)
theorem str_ne {a b : Str} (e : ¬ decide (V.str a = V.str b) = true) : a ≠ b := fun z => e (decide_eq_true (by rw [z]))
/-- the three ops that go bit by bit -/
def Bitwise (op : Str) (c : Nat) : Prop := (op = "and" ∧ c = 0) ∨ (op = "or" ∧ c = 1) ∨ (op = "xor" ∧ c = 2)
theorem n1 : ¬ ("and" : Str) = "or" := by decide +kernel
theorem n2 : ¬ ("and" : Str) = "xor" := by decide +kernel
theorem n3 : ¬ ("or" : Str) = "xor" := by decide +kernel
theorem dS {a b : Str} (h : ¬ a = b) : decide (V.str a = V.str b) = false := decide_eq_false fun z => h (V.str.inj z)
theorem dT {a : Str} : decide (V.str a = V.str a) = true := decide_eq_true rfl
theorem dI {i j : Int} : decide (V.int i = V.int j) = (i == j) := dec_int
theorem hit_val {op : Str} {c : Nat} (h : Bitwise op c) (z : Int) :
    ((decide (V.str op = V.str "and") && decide (V.int z = V.int 2)) || ((decide (V.str op = V.str "or") && decide ((0 : Int) < z)) || (decide (V.str op = V.str "xor") && decide (V.int z = V.int 1)))) = hit c z := by
  rcases h with ⟨rfl, rfl⟩ | ⟨rfl, rfl⟩ | ⟨rfl, rfl⟩
  · rw [dT, dS n1, dS n2, dI]
    simp [hit]
  · rw [dT, dS n3, dS (fun q => n1 q.symm)]
    simp [hit]
  · rw [dT, dS (fun q => n2 q.symm), dS (fun q => n3 q.symm), dI]
    simp [hit]
    rfl
theorem bit_ops {op : Str} {g : G} (h : (op, g) ∈ ops) (e : inV (.str op) [.str "and", .str "or", .str "xor"] = true) : ∃ c, Bitwise op c ∧ g = fun _ a b => ((bop c a b : Nat) : Int) := by
  have e' : op = "and" ∨ op = "or" ∨ op = "xor" := by
    have q : (("and" : Str) == op || (("or" : Str) == op || (("xor" : Str) == op || false))) = true := e
    simp only [Bool.or_eq_true, beq_iff_eq, Bool.false_eq_true, or_false] at q
    rcases q with q | q | q
    · exact .inl q.symm
    · exact .inr (.inl q.symm)
    · exact .inr (.inr q.symm)
  rcases e' with q | q | q
  · exact ⟨0, .inl ⟨q, rfl⟩, pick h 3 rfl q⟩
  · exact ⟨1, .inr (.inl ⟨q, rfl⟩), pick h 4 rfl q⟩
  · exact ⟨2, .inr (.inr ⟨q, rfl⟩), pick h 5 rfl q⟩
/-! arithmetic of the answers -/
theorem wlt {a W : Nat} (h : a < 2 ^ W) : (a : Int) < 2 ^ W := by
  rw [← pow_cast]
  exact Int.ofNat_lt.mpr h
theorem add_lo {W a b : Nat} (h : (a : Int) + b < 2 ^ W) : gAdd W a b = (a : Int) + b := Int.emod_eq_of_lt (by omega) h
theorem add_hi {W a b : Nat} (ha : a < 2 ^ W) (hb : b < 2 ^ W) (h : ¬ (a : Int) + b < 2 ^ W) : gAdd W a b = (a : Int) + b - 2 ^ W := by
  have h1 := wlt ha
  have h2 := wlt hb
  exact wrap (by omega) (by omega)
theorem sub_hi {W a b : Nat} (ha : a < 2 ^ W) (h : (b : Int) ≤ a) : gSub W a b = (a : Int) - b := by
  have h1 := wlt ha
  exact Int.emod_eq_of_lt (by omega) (by omega)
theorem sub_lo {W a b : Nat} (hb : b < 2 ^ W) (h : ¬ (b : Int) ≤ a) : gSub W a b = (a : Int) - b + 2 ^ W := by
  have h2 := wlt hb
  exact wrap' (by omega) (by omega)
theorem neg_0 {W a : Nat} (h : (a : Int) = 0) (b : Nat) : gNeg W a b = 0 := by
  unfold gNeg
  rw [h]
  exact Int.zero_emod _
theorem neg_1 {W a : Nat} (ha : a < 2 ^ W) (h : ¬ (a : Int) = 0) (b : Nat) : gNeg W a b = 2 ^ W - (a : Int) := by
  have h1 := wlt ha
  have e : gNeg W a b = -(a : Int) + 2 ^ W := wrap' (by omega) (by omega)
  omega
def spLC : Sp := fun vs H Q _ => ∃ (op : Str) (g : G) (W a b : Nat), vs = [.str op, .int W, .int a, .int b] ∧ (op, g) ∈ ops ∧ 1 ≤ W ∧ W ≤ 16 ∧ a < 2 ^ W ∧ b < 2 ^ W ∧ ∀ H', Same H H' → Q (.int (g W a b)) H'
theorem last_neg {op : Str} {g : G} (h : (op, g) ∈ ops) (h0 : op ≠ "add") (h1 : op ≠ "sub") (h2 : op ≠ "mul") (h3 : ¬ inV (.str op) [.str "and", .str "or", .str "xor"] = true) (h6 : op ≠ "shl") (h7 : op ≠ "shr") (h8 : op ≠ "less") (h9 : op ≠ "equal") (h10 : op ≠ "not") : g = gNeg := by
  have e : op = "neg" := by
    have q := List.mem_map_of_mem (f := (·.1)) h
    have q2 : op ∈ (["add", "sub", "mul", "and", "or", "xor", "shl", "shr", "less", "equal", "not", "neg"] : List Str) := q
    simp only [List.mem_cons, List.not_mem_nil, or_false] at q2
    rcases q2 with q | q | q | q | q | q | q | q | q | q | q | q
    · exact absurd q h0
    · exact absurd q h1
    · exact absurd q h2
    · subst q; exact absurd (by decide +kernel) h3
    · subst q; exact absurd (by decide +kernel) h3
    · subst q; exact absurd (by decide +kernel) h3
    · exact absurd q h6
    · exact absurd q h7
    · exact absurd q h8
    · exact absurd q h9
    · exact absurd q h10
    · exact q
  exact pick h 11 rfl e
end K0

set_option Elab.async false
set_option linter.all false
set_option maxRecDepth 100000
set_option maxHeartbeats 400000
namespace K0
open PySem L2
theorem gName_go {i : Nat} {v : V} {σ : St} {H : Hp} {Q : St → Hp → Prop} (h : Q (σ.set i (some v)) H) : gName i v σ H Q := h
theorem nx_go {t : St → Hp → Prop} {r : VK} {b c : St → Hp → Prop} {σ : St} {H : Hp} (h : t σ H) : ({ nx := t, rt := r, bk := b, ct := c } : Ends).nx σ H := h
theorem tIfS_val {c : TT} {t u : TS} {D : Ends} {σ : St} {H : Hp} {b : Bool} (hc : ∀ Q : Bool → Hp → Prop, Q b H → c σ H Q) (h : if b = true then t D σ H else u D σ H) : tIfS c t u D σ H := hc _ h
theorem op_shl1 {X : Cx} : OpR X (binaryOp .LShift) (fun x y H Q => ∃ W : Nat, x = .int 1 ∧ y = .int W ∧ W ≤ 16 ∧ Q (.int (2 ^ W)) H) := by
  intro pins s σ H x y v u Q I rx ry h
  obtain ⟨W, e1, e2, hW, q⟩ := h
  refine op_shl pins s σ H x y v u Q I rx ry ⟨1, W, e1, e2, ⟨by omega, by omega, by decide⟩, ?_⟩
  show Q (.int (1 * 2 ^ ((W : Int)).toNat)) H
  rw [one_pow]
  exact q
end K0
set_option Elab.async false
set_option linter.all false
set_option maxRecDepth 100000
set_option maxHeartbeats 1000000
namespace K0
open PySem L2
/-- all but what stands at d is as it was -/
def Keep (d : Addr) (H H' : Hp) : Prop := ∀ b o, H b = some o → b ≠ d → H' b = some o
theorem Keep.refl (d : Addr) (H : Hp) : Keep d H H := fun _ _ e _ => e
theorem Keep.trans {d : Addr} {H H1 H2 : Hp} (a : Keep d H H1) (b : Keep d H1 H2) : Keep d H H2 := fun c o e n => b c o (a c o e n) n
theorem Keep.of {d : Addr} {H H1 : Hp} (s : Same H H1) : Keep d H H1 := fun c o e _ => s c o e
theorem Keep.put {d : Addr} {H : Hp} {o : HO} : Keep d H (upd H d o) := fun b u e n => by
  rw [upd_ne n]
  exact e
theorem same_new {H : Hp} {p : Addr} {o : HO} (h : H p = none) : Same H (upd H p o) := fun b x e => by
  rw [upd_ne (ne_of_none e h)]
  exact e
/-- the row of draws -/
structure Drw (H : Hp) (d c : Addr) (ns : List Int) (k l s : Int) : Prop where
  at_ : H d = some (.lst [.ref c, .int k, .int l, .int s])
  cells : H c = some (.lst (ns.map V.int))
  ne : c ≠ d
  k0 : -1 ≤ k
  l0 : 0 ≤ l
  s0 : 0 ≤ s
  s1 : s < 2147483648
  pos : ∀ n ∈ ns, 0 ≤ n
theorem Drw.store {H : Hp} {d c : Addr} {ns : List Int} {k l s k' l' s' : Int} (D : Drw H d c ns k l s) (hk : -1 ≤ k') (hl : 0 ≤ l') (h0 : 0 ≤ s') (h1 : s' < 2147483648) : Drw (upd H d (.lst [.ref c, .int k', .int l', .int s'])) d c ns k' l' s' :=
  ⟨upd_same, by rw [upd_ne D.ne]; exact D.cells, D.ne, hk, hl, h0, h1, D.pos⟩
theorem Drw.same {H H' : Hp} {d c : Addr} {ns : List Int} {k l s : Int} (D : Drw H d c ns k l s) (e : Same H H') : Drw H' d c ns k l s := ⟨e _ _ D.at_, e _ _ D.cells, D.ne, D.k0, D.l0, D.s0, D.s1, D.pos⟩
def Drd (H : Hp) (d c : Addr) (ns : List Int) : Prop := ∃ k l s, Drw H d c ns k l s
theorem Drd.same {H H' : Hp} {d c : Addr} {ns : List Int} (D : Drd H d c ns) (e : Same H H') : Drd H' d c ns := by
  obtain ⟨k, l, s, D⟩ := D
  exact ⟨k, l, s, D.same e⟩
def spTake : Sp := fun vs H Q _ => ∃ (d c : Addr) (ns : List Int) (m : Int), vs = [.ref d, .int m] ∧ Drd H d c ns ∧ 1 ≤ m ∧ m ≤ 65536 ∧ ∀ (z : Nat) H', (z : Int) < m → Drd H' d c ns → Keep d H H' → Q (.int z) H'
section
variable {P : Program} {w : World} {K : PySem.W.Frag} {mg : Str → Option Value} {base : Heap}
theorem scTake : FnScope ["draw", "many", "found"] ["draw", "many"] (defScope sTake) := ⟨rfl, rfl, rfl, by decide +kernel, rfl, by decide +kernel, by decide +kernel⟩
theorem ok_take {f : Addr} {fd : FuncData} (F : Fun K "_law_take" "_law_take" sTake f fd) (ml : mg "len" = none) (mi : mg "int" = none) : FnOk P w K mg base CX0 1 f fd ["draw", "many"] spTake := by
  refine F.ok scTake (fun vs H Q E h => ?_) (fun cdv A outer s H vs Q E hr h => ?_)
  · obtain ⟨d, c, ns, m, rfl, _⟩ := h
    rfl
  · obtain ⟨d, c, ns, m, rfl, D, m1, m2, q⟩ := h
    have nd := scTake.nd
    refine ⟨_, C8.pss_cut (ps_if (pt_cmpR op_eq (pe_ix ix_list (pv 0) pe_int (fun _ _ => rfl)) pe_int (nomark _))
        (pss_cons (ps_asg (pe_op op_add (pe_ix ix_list (pv 0) pe_int (fun _ _ => rfl)) pe_int) (pg_sub (pv 0) pe_int set_list))
        (C8.pss_cut (ps_if (pt_cmpR op_lt (pe_ix ix_list (pv 0) pe_int (fun _ _ => rfl)) (pe_callB call_len_seq (by rfl) ml PySem.boot_len (pa_cons (pe_ix ix_list (pv 0) pe_int (fun _ _ => rfl)) pa_nil)) (nomark _))
            (pss_one (ps_asg (pe_ix ix_list (pe_ix ix_list (pv 0) pe_int (fun _ _ => rfl)) (pe_ix ix_list (pv 0) pe_int (fun _ _ => rfl)) (fun _ _ => rfl)) (pg_sub (pv 0) pe_int set_list))) pss_nil)
        (pss_one (ps_if (pt_cmpR op_eq (pe_ix ix_list (pv 0) pe_int (fun _ _ => rfl)) pe_int (nomark _))
            (pss_cons (ps_asg (pe_op op_mod (pe_callTy call_int1 (by rfl) mi (by decide +kernel) (pa_cons (pe_op op_add (pe_op op_mul (pe_ix ix_list (pv 0) pe_int (fun _ _ => rfl)) pe_int) pe_int) pa_nil)) pe_int) (pg_sub (pv 0) pe_int set_list))
            (pss_one (ps_asg (pe_ix ix_list (pv 0) pe_int (fun _ _ => rfl)) (pg_sub (pv 0) pe_int set_list)))) pss_nil)))) pss_nil)
      (pss_cons (ps_set (i := 2) nd rfl (.inl rfl) (pe_op op_mod (pe_callTy call_int1 (by rfl) mi (by decide +kernel) (pa_cons (pe_ix ix_list (pv 0) pe_int (fun _ _ => rfl)) pa_nil)) (pv 1)))
      (pss_cons (ps_asg (pe_op op_fdiv (pe_ix ix_list (pv 0) pe_int (fun _ _ => rfl)) (pv 1)) (pg_sub (pv 0) pe_int set_list))
      (pss_one (ps_ret (pv 2))))), ?_⟩
    refine ⟨fun σ' H' => σ' = [some (.ref d), some (.int m), none] ∧ Drd H' d c ns ∧ Keep d H H', ?_, ?_⟩
    · obtain ⟨k, l, s, D⟩ := D
      refine ⟨_, rfl, d, _, 2, _, rfl, rfl, .of D.at_, atI_nat (j := 2) rfl, rfl, _, rfl, ite2 (fun e => ?_) (fun e => ?_)⟩
      · -- draw[1] = draw[1] + 1
        have D1 : Drw (upd H d (.lst [.ref c, .int (k + 1), .int l, .int s])) d c ns (k + 1) l s := D.store (by have := D.k0; omega) D.l0 D.s0 D.s1
        refine ⟨_, rfl, d, _, 1, _, rfl, rfl, .of D.at_, atI_nat (j := 1) rfl, _, _, rfl, rfl, _, rfl, d, _, 1, 1, rfl, rfl, D.at_, rfl, ?_⟩
        refine ⟨fun σ' H' => σ' = [some (.ref d), some (.int m), none] ∧ Drd H' d c ns ∧ Keep d H H', ?_, ?_⟩
        · refine ⟨_, rfl, d, _, 1, _, rfl, rfl, .of D1.at_, atI_nat (j := 1) rfl, _, rfl, d, _, 0, _, rfl, rfl, .of D1.at_, atI_nat (j := 0) rfl, c, _, rfl, .inl (.of D1.cells), _, _, rfl, rfl, _, rfl, ite2 (fun e => ?_) (fun e => ?_)⟩
          · have hlt := of_decide_eq_true e
            rw [List.length_map] at hlt
            have hk := D1.k0
            have hk0 := D.k0
            obtain ⟨j, hj⟩ : ∃ j : Nat, k + 1 = (j : Int) := ⟨(k + 1).toNat, by omega⟩
            have hjl : j < ns.length := by omega
            have g : (ns.map V.int)[j]? = some (.int ns[j]) := by
              rw [List.getElem?_map, List.getElem?_eq_getElem hjl]
              rfl
            refine ⟨_, rfl, d, _, 0, _, rfl, rfl, .of D1.at_, atI_nat (j := 0) rfl, _, rfl, d, _, 1, _, rfl, rfl, .of D1.at_, atI_nat (j := 1) rfl, c, _, k + 1, _, rfl, rfl, .of D1.cells, at_of hj g, _, rfl, d, _, 2, 2, rfl, rfl, D1.at_, rfl, rfl, ⟨_, _, _, D1.store D1.k0 (D.pos _ (List.getElem_mem hjl)) D1.s0 D1.s1⟩, Keep.put.trans Keep.put⟩
          · exact ⟨rfl, ⟨_, _, _, D1⟩, Keep.put⟩
        · rintro σ' H' ⟨rfl, ⟨k2, l2, s2, D2⟩, kp⟩
          refine ⟨_, rfl, d, _, 2, _, rfl, rfl, .of D2.at_, atI_nat (j := 2) rfl, rfl, _, rfl, ite2 (fun e => ?_) (fun e => ?_)⟩
          · have hs0 := D2.s0
            have hs1 := D2.s1
            have r0 : 0 ≤ (s2 * 48271 + 11) % 2147483647 := Int.emod_nonneg _ (by decide)
            have r1 : (s2 * 48271 + 11) % 2147483647 < 2147483647 := Int.emod_lt_of_pos _ (by decide)
            have D3 : Drw (upd H' d (.lst [.ref c, .int k2, .int l2, .int ((s2 * 48271 + 11) % 2147483647)])) d c ns k2 l2 ((s2 * 48271 + 11) % 2147483647) := D2.store D2.k0 D2.l0 r0 (by omega)
            refine ⟨_, rfl, d, _, 3, _, rfl, rfl, .of D2.at_, atI_nat (j := 3) rfl, _, _, rfl, rfl, .inl ⟨by omega, by omega⟩, _, _, rfl, rfl, .inl ⟨_, rfl, ?_⟩⟩
            refine ⟨_, _, rfl, rfl, (by show (0 : Int) < 2147483647; decide), _, rfl, d, _, 3, 3, rfl, rfl, D2.at_, rfl, ?_⟩
            refine ⟨_, rfl, d, _, 3, _, rfl, rfl, .of D3.at_, atI_nat (j := 3) rfl, _, rfl, d, _, 2, 2, rfl, rfl, D3.at_, rfl, rfl, ⟨_, _, _, D3.store D3.k0 r0 r0 (by omega)⟩, (kp.trans Keep.put).trans Keep.put⟩
          · exact ⟨rfl, ⟨_, _, _, D2⟩, kp⟩
      · exact ⟨rfl, ⟨k, l, s, D⟩, Keep.refl _ _⟩
    · rintro σ' H' ⟨rfl, ⟨k, l, s, D⟩, kp⟩
      have hl := D.l0
      have r0 : 0 ≤ l % m := Int.emod_nonneg _ (by omega)
      have r1 : l % m < m := Int.emod_lt_of_pos _ (by omega)
      have q0 : 0 ≤ l / m := Int.ediv_nonneg hl (by omega)
      refine ⟨_, rfl, d, _, 2, _, rfl, rfl, .of D.at_, atI_nat (j := 2) rfl, .inl ⟨_, rfl, _, rfl, _, _, rfl, rfl, (by show (0 : Int) < m; omega), ?_⟩⟩
      refine ⟨_, rfl, d, _, 2, _, rfl, rfl, .of D.at_, atI_nat (j := 2) rfl, _, rfl, _, _, rfl, rfl, ⟨by omega, by omega⟩, _, rfl, d, _, 2, 2, rfl, rfl, D.at_, rfl, ?_⟩
      refine ⟨_, rfl, ?_⟩
      have ez : ((l % m).toNat : Int) = l % m := Int.toNat_of_nonneg r0
      have qq := q (l % m).toNat (upd H' d (.lst [.ref c, .int k, .int (l / m), .int s])) (by omega) ⟨_, _, _, D.store D.k0 q0 D.s0 D.s1⟩ (kp.trans Keep.put)
      rw [ez] at qq
      exact qq
end
end K0

set_option Elab.async false
set_option linter.all false
set_option maxRecDepth 100000
set_option maxHeartbeats 1000000
namespace K0
open PySem L2
def ten : List V := [.str "add", .str "sub", .str "mul", .str "and", .str "or", .str "xor", .str "shl", .str "shr", .str "less", .str "equal"]
def spPairs : Sp := fun vs H Q _ => vs = [] ∧ ∀ p, H p = none → Q (.ref p) (upd H p (.lst ten))
def spWord : Sp := fun vs H Q _ => ∃ (d c : Addr) (ns : List Int) (W : Nat), vs = [.ref d, .int W] ∧ Drd H d c ns ∧ 1 ≤ W ∧ W ≤ 16 ∧ ∀ (z : Nat) H', z < 2 ^ W → Drd H' d c ns → Keep d H H' → Q (.int z) H'
def spDraw (K : PySem.W.Frag) : Sp := fun vs H Q _ => ∃ (a : Addr) (ns : List Int), vs = [.ref a] ∧ SqL K H a (ns.map V.int) ∧ ns.length ≤ 63 ∧ ∀ d c ms H', Drd H' d c ms → Same H H' → H d = none → Q (.ref d) H'
/-- a def as it is called: its promise, its name, its parameters -/
structure Got (P : Program) (w : World) (K : PySem.W.Frag) (mg : Str → Option Value) (base : Heap) (k : Nat) (x : Str) (ps : List Str) (sp : Sp) : Prop where
  ex : ∃ (f : Addr) (fd : FuncData), FnOk P w K mg base CX0 k f fd ps sp ∧ mg x = some (.ref f) ∧ PySem.W.keepIn K (.ref f) = true ∧ Binds K fd ps []
section
variable {P : Program} {w : World} {K : PySem.W.Frag} {mg : Str → Option Value} {base : Heap}
theorem scPairs : FnScope [] [] (defScope sPairs) := ⟨rfl, rfl, rfl, by decide +kernel, rfl, by decide +kernel, by decide +kernel⟩
theorem ok_pairs {f : Addr} {fd : FuncData} (F : Fun K "_law_pairs" "_law_pairs" sPairs f fd) : FnOk P w K mg base CX0 1 f fd [] spPairs := by
  refine F.ok scPairs (fun vs H Q E h => ?_) (fun cdv A outer s H vs Q E hr h => ?_)
  · obtain ⟨rfl, _⟩ := h
    rfl
  · obtain ⟨rfl, q⟩ := h
    refine ⟨_, pss_one (ps_ret (pe_lst (pa_cons pe_str (pa_cons pe_str (pa_cons pe_str (pa_cons pe_str (pa_cons pe_str (pa_cons pe_str (pa_cons pe_str (pa_cons pe_str (pa_cons pe_str (pa_cons pe_str pa_nil)))))))))))), ?_⟩
    exact ⟨(by show 10 ≤ sizeLine; decide), q⟩
theorem scWord : FnScope ["draw", "w", "k"] ["draw", "w"] (defScope sWord) := ⟨rfl, rfl, rfl, by decide +kernel, rfl, by decide +kernel, by decide +kernel⟩
theorem ok_word {f : Addr} {fd : FuncData} (F : Fun K "_law_word" "_law_word" sWord f fd) (mi : mg "int" = none) (mm : mg "min" = none)
    (GT : Got P w K mg base 1 "_law_take" ["draw", "many"] spTake) (GL : Got P w K mg base 1 "_law_top" ["w"] spTop) : FnOk P w K mg base CX0 2 f fd ["draw", "w"] spWord := by
  obtain ⟨ft, fdt, GT, mgT, kT, bT⟩ := GT.ex
  obtain ⟨fl, fdl, GL, mgL, kL, bL⟩ := GL.ex
  refine F.ok scWord (fun vs H Q E h => ?_) (fun cdv A outer s H vs Q E hr h => ?_)
  · obtain ⟨d, c, ns, W, rfl, _⟩ := h
    rfl
  · obtain ⟨d, c, ns, W, rfl, D, h1, hW, q⟩ := h
    have nd := scWord.nd
    have lp := pow_pos W
    have l16 := pow_le16 hW
    have ep := pow_cast W
    have e2 : 2 ≤ 2 ^ W := by
      have := Nat.pow_le_pow_right (show 0 < 2 by decide) h1
      exact this
    refine ⟨_, pss_cons (ps_set (i := 2) nd rfl (.inl rfl) (pe_call GT hr (by rfl) mgT kT bT .nil pass0 (pa_cons (pv 0) (pa_cons pe_int pa_nil))))
      (pss_cons (ps_if (pt_cmpR op_lt (pv 2) pe_int (nomark _))
        (pss_one (ps_ret (pe_callB (call_min2 rfl) (by rfl) mm PyProof.Rows.boot_min (pa_cons (pe_ix ix_list (pe_lst (pa_cons pe_int (pa_cons pe_int (pa_cons pe_int pa_nil)))) (pv 2) (fun _ _ => rfl)) (pa_cons (pe_call GL hr (by rfl) mgL kL bL .nil pass0 (pa_cons (pv 1) pa_nil)) pa_nil))))) pss_nil)
      (pss_cons (ps_if (pt_cmpR op_eq (pv 2) pe_int (nomark _)) (pss_one (ps_ret (pe_call GL hr (by rfl) mgL kL bL .nil pass0 (pa_cons (pv 1) pa_nil)))) pss_nil)
      (pss_one (ps_ret (pe_op op_mod (pe_callTy call_int1 (by rfl) mi (by decide +kernel) (pa_cons (pe_call GT hr (by rfl) mgT kT bT .nil pass0 (pa_cons (pv 0) (pa_cons pe_int pa_nil))) pa_nil)) (pe_op op_shl1 pe_int (pv 1))))))), ?_⟩
    refine ⟨_, rfl, d, c, ns, 6, rfl, D, by decide, by decide, fun k H1 hk D1 kp1 => ?_⟩
    refine ⟨_, rfl, _, _, rfl, rfl, _, rfl, ite2 (fun e => ?_) (fun e => ?_)⟩
    · have e' : (k : Int) < 3 := of_decide_eq_true e
      refine ⟨(by show 3 ≤ sizeLine; decide), fun p hp => ?_⟩
      have s1 : Same H1 (upd H1 p (.lst [.int 0, .int 1, .int 5])) := same_new hp
      obtain ⟨v, hv, hv0⟩ : ∃ v : Nat, ([.int 0, .int 1, .int 5] : List V)[k]? = some (.int (v : Int)) ∧ v ≤ 5 := by
        match k, e' with
        | 0, _ => exact ⟨0, rfl, by decide⟩
        | 1, _ => exact ⟨1, rfl, by decide⟩
        | 2, _ => exact ⟨5, rfl, by decide⟩
        | k + 3, e => omega
      refine ⟨_, rfl, p, _, _, _, rfl, rfl, .of upd_same, atI_nat hv, _, rfl, W, rfl, hW, _, _, rfl, ?_⟩
      by_cases hlt : (2 : Int) ^ W - 1 < v
      · rw [if_pos hlt]
        have := q (2 ^ W - 1) _ (by omega) (D1.same s1) (kp1.trans (Keep.of s1))
        have ez : ((2 ^ W - 1 : Nat) : Int) = 2 ^ W - 1 := by omega
        rw [ez] at this
        exact this
      · rw [if_neg hlt]
        exact q v _ (by omega) (D1.same s1) (kp1.trans (Keep.of s1))
    · refine ⟨_, rfl, rfl, _, rfl, ite2 (fun e => ?_) (fun e => ?_)⟩
      · refine ⟨_, rfl, W, rfl, hW, ?_⟩
        have := q (2 ^ W - 1) _ (by omega) D1 kp1
        have ez : ((2 ^ W - 1 : Nat) : Int) = 2 ^ W - 1 := by omega
        rw [ez] at this
        exact this
      · refine ⟨_, rfl, d, c, ns, 65536, rfl, D1, by decide, by decide, fun z H2 hz D2 kp2 => .inl ⟨_, rfl, _, rfl, W, rfl, rfl, hW, _, _, rfl, rfl, lp, ?_⟩⟩
        have r0 : 0 ≤ (z : Int) % 2 ^ W := Int.emod_nonneg _ (by omega)
        have r1 : (z : Int) % 2 ^ W < 2 ^ W := Int.emod_lt_of_pos _ lp
        have := q ((z : Int) % 2 ^ W).toNat _ (by omega) D2 (kp1.trans kp2)
        rw [Int.toNat_of_nonneg r0] at this
        exact this
theorem scDraw : FnScope ["script", "seed", "cell"] ["script"] (defScope sDraw) := ⟨rfl, rfl, rfl, by decide +kernel, rfl, by decide +kernel, by decide +kernel⟩
theorem tYes_go {σ : St} {H : Hp} {A B : Bool → Hp → Prop} (h : A true H) : tYes σ H (fun b H3 => if b = true then A b H3 else B b H3) := by
  show if true = true then A true H else B true H
  exact iteT h
def abz (i : Int) : Int := if i < 0 then -i else i
theorem abz_nn (i : Int) : 0 ≤ abz i := by
  unfold abz
  split <;> omega
theorem ok_draw {f : Addr} {fd : FuncData} (F : Fun K "_law_draw" "_law_draw" sDraw f fd) (mi : mg "int" = none) (ma : mg "abs" = none) : FnOk P w K mg base CX0 1 f fd ["script"] (spDraw K) := by
  refine F.ok scDraw (fun vs H Q E h => ?_) (fun cdv A outer s H vs Q E hr h => ?_)
  · obtain ⟨a, ns, rfl, _⟩ := h
    rfl
  · obtain ⟨a, ns, rfl, hS, hlen, q⟩ := h
    have nd := scDraw.nd
    refine ⟨_, pss_cons (ps_set (i := 1) nd rfl (.inl rfl) pe_int)
      (pss_cons (ps_for PassesOwn.never rfl (pi_list (pv 0)) (pg_name (i := 2) nd rfl (.inl rfl))
        (pss_one (ps_set (i := 1) nd rfl (.inl rfl) (pe_op op_mod (pe_callTy call_int1 (by rfl) mi (by decide +kernel) (pa_cons (pe_op op_add (pe_op op_add (pe_op op_mul (pv 1) pe_int) (pe_op op_mod (pe_callB call_abs (by rfl) ma PyProof.Rows.boot_abs (pa_cons (pe_callTy call_int1 (by rfl) mi (by decide +kernel) (pa_cons (pv 2) pa_nil)) pa_nil)) pe_int)) pe_int) pa_nil)) pe_int))))
      (pss_one (ps_ret (pe_lst (pa_cons (pe_lc (own := [("cell", 2)]) (g := gName 2) (tt := tYes) rfl nd (pi_list (pv 0)) (blkOk_by (N := ["script", "seed", "cell"]) (sc := defScope sDraw) (by decide +kernel)) (fun _ _ _ _ _ => pg_name (i := 2) nd rfl (.inl rfl)) (fun _ _ _ _ _ => pts_nil)
            (fun _ _ _ _ _ => pe_callB call_abs (by rfl) ma PyProof.Rows.boot_abs (pa_cons (pe_callTy call_int1 (by rfl) mi (by decide +kernel) (pa_cons (pv 2) pa_nil)) pa_nil)))
          (pa_cons (pe_un un_neg pe_int) (pa_cons pe_int (pa_cons (pv 1) pa_nil)))))))), ?_⟩
    refine ⟨_, rfl, a, rfl, ⟨_, hS⟩, for_list (xs := ns.map V.int) (fun i σ H' => ∃ s y2, σ = [some (.ref a), some (.int s), y2] ∧ 0 ≤ s ∧ s < 2147483648 ∧ H' = H) ⟨7, none, rfl, by decide, by decide, rfl⟩ ?_ ?_ ?_⟩
    · rintro i σ H' _ ⟨s, y2, rfl, _, _, rfl⟩
      exact hS
    · rintro i x σ H' hx ⟨s, y2, rfl, s0, s1, rfl⟩
      obtain ⟨n, rfl⟩ : ∃ n, x = V.int n := by
        rw [List.getElem?_map] at hx
        cases e : ns[i]? with
        | none => rw [e] at hx; cases hx
        | some u => rw [e] at hx; exact ⟨u, (Option.some.inj hx).symm⟩
      refine ⟨_, rfl, _, _, rfl, rfl, .inl ⟨by omega, by omega⟩, _, rfl, .inl ⟨_, rfl, _, rfl, _, _, rfl, rfl, (by show (0 : Int) < 65521; decide), _, _, rfl, rfl, _, _, rfl, rfl, .inl ⟨_, rfl, _, _, rfl, rfl, (by show (0 : Int) < 2147483647; decide), ?_⟩⟩⟩
      refine ⟨_, _, rfl, Int.emod_nonneg _ (by decide), ?_, rfl⟩
      have r1 := Int.emod_lt_of_pos (s * 48271 + (if n < 0 then -n else n) % 65521 + 1) (show (0 : Int) < 2147483647 by decide)
      exact Int.lt_trans r1 (by decide)
    · rintro σ H' ⟨s, y2, rfl, s0, s1, rfl⟩
      refine ⟨_, rfl, a, rfl, ⟨_, hS⟩, fun D hD => lc_list (xs := ns.map V.int) (fun i H1 => i ≤ ns.length ∧ H1 D = some (.lst ((ns.take i).map fun n => V.int (abz n))) ∧ Same H' H1) ⟨Nat.zero_le _, upd_same, same_new hD⟩ ?_ ?_ ?_⟩
      · rintro i H1 _ ⟨_, _, sm⟩
        exact sm.seq hS
      · rintro i x H1 hx ⟨hi, hD1, sm⟩
        have hil : i < ns.length := by
          have q := (List.getElem?_eq_some_iff.mp hx).1
          rw [List.length_map] at q
          exact q
        obtain rfl : x = V.int ns[i] := by
          rw [List.getElem?_map, List.getElem?_eq_getElem hil] at hx
          exact (Option.some.inj hx).symm
        refine ⟨rfl, ?_⟩
        refine tYes_go ?_
        refine ⟨_, rfl, .inl ⟨_, rfl, _, rfl, ?_⟩⟩
        refine ⟨_, hD1, ?_, hil, ?_, ?_⟩
        · rw [List.length_map, List.length_take]
          exact small1000 (by omega)
        · rw [upd_same, List.take_add_one, List.getElem?_eq_getElem hil, List.map_append]
          rfl
        · intro b o e
          rw [upd_ne (ne_of_none e hD)]
          exact sm b o e
      · rintro H1 ⟨_, hD1, sm⟩
        rw [List.length_map, List.take_length] at hD1
        refine ⟨_, rfl, _, rfl, (by show 4 ≤ sizeLine; decide), fun p hp => ?_⟩
        have s2 : Same H1 (upd H1 p (.lst [.ref D, .int (-1), .int 0, .int s])) := same_new hp
        have hDp : D ≠ p := ne_of_none hD1 hp
        refine q p D (ns.map abz) _ ⟨-1, 0, s, ⟨upd_same, ?_, hDp, by decide, by decide, s0, s1, ?_⟩⟩ (sm.trans s2) (sm.free hp)
        · rw [upd_ne hDp, hD1, List.map_map]
          rfl
        · intro n hn
          obtain ⟨m, _, rfl⟩ := List.mem_map.mp hn
          exact abz_nn m
end
end K0

set_option Elab.async false
set_option linter.all false
set_option maxRecDepth 100000
set_option maxHeartbeats 1000000
namespace K0
open PySem L2
def spComp : Sp := fun vs H Q _ => ∃ (op : Str) (g : G) (W a b : Nat), vs = [.str op, .int W, .int a, .int b] ∧ (op, g) ∈ ops ∧ 1 ≤ W ∧ W ≤ 16 ∧ a < 2 ^ W ∧ b < 2 ^ W ∧ Q (.int (g W a b)) H
theorem draw_w {t : Nat} (ht : t < 16) {k : Nat} (hk : k < 7) : ∃ W : Nat, ([.int 1, .int 2, .int 7, .int 8, .int 15, .int 16, .int (1 + (t : Int))] : List V)[k]? = some (.int (W : Int)) ∧ 1 ≤ W ∧ W ≤ 16 := by
  match k, hk with
  | 0, _ => exact ⟨1, rfl, by decide, by decide⟩
  | 1, _ => exact ⟨2, rfl, by decide, by decide⟩
  | 2, _ => exact ⟨7, rfl, by decide, by decide⟩
  | 3, _ => exact ⟨8, rfl, by decide, by decide⟩
  | 4, _ => exact ⟨15, rfl, by decide, by decide⟩
  | 5, _ => exact ⟨16, rfl, by decide, by decide⟩
  | 6, _ => exact ⟨1 + t, congrArg (fun z => some (V.int z)) (by omega), by omega, by omega⟩
  | k + 7, h => omega
theorem iteNb {b : Bool} {A B : Prop} (h : b = true) (x : B) : if (!b) = true then A else B := by
  subst h
  exact iteF x
theorem call_minN {X : Cx} (hc : X.calm = true) : CallR X (.builtin "min") (fun xs H Q => ∃ i j b : Int, xs = [.int i, .int j] ∧ (if j < i then j else i) = b ∧ Q (.int b) H) := by
  intro pins s σ H xs us Q I r h
  obtain ⟨i, j, b, e, eb, q⟩ := h
  exact call_min2 hc pins s σ H xs us Q I r ⟨i, j, e, by rw [eb]; exact q⟩
theorem Drd.ne {H : Hp} {d c p : Addr} {ns : List Int} (D : Drd H d c ns) (hp : H p = none) : p ≠ d := by
  obtain ⟨k, l, s, D⟩ := D
  exact (ne_of_none D.at_ hp).symm
end K0
set_option Elab.async false
set_option linter.all false
set_option maxRecDepth 100000
set_option maxHeartbeats 1000000
namespace K0
open PySem L2
def uni : List Nat := [0, 1, 2, 3, 4, 5, 7, 40, 53, 99]
inductive Ex where
  | int (n : Nat)
  | var (v : Nat)
  | load (e : Ex)
  | one (op : Str) (e : Ex)
  | two (op : Str) (e f : Ex)
/-- tuples stay -/
def Tups (H H' : Hp) : Prop := ∀ b xs, H b = some (.tup xs) → H' b = some (.tup xs)
theorem Tups.refl (H : Hp) : Tups H H := fun _ _ e => e
theorem Tups.trans {H H1 H2 : Hp} (a : Tups H H1) (b : Tups H1 H2) : Tups H H2 := fun c o e => b c o (a c o e)
theorem Tups.of {H H1 : Hp} (s : Same H H1) : Tups H H1 := fun c o e => s c _ e
theorem Tups.keep {H H1 : Hp} {d c : Addr} {ns : List Int} (D : Drd H d c ns) (s : Keep d H H1) : Tups H H1 := fun b xs e => by
  obtain ⟨k, l, z, D⟩ := D
  exact s b _ e (ne_of e D.at_ (by intro q; cases q))
def ExAt (H : Hp) : Ex → V → Prop
  | .int n, v => ∃ a, v = .ref a ∧ H a = some (.tup [.str "int", .int (n : Int)])
  | .var x, v => ∃ a, v = .ref a ∧ H a = some (.tup [.str "var", .int (x : Int)])
  | .load e, v => ∃ a u, v = .ref a ∧ H a = some (.tup [.str "load", u]) ∧ ExAt H e u
  | .one op e, v => ∃ a u, v = .ref a ∧ H a = some (.tup [.str op, u]) ∧ ExAt H e u
  | .two op e f, v => ∃ a u y, v = .ref a ∧ H a = some (.tup [.str op, u, y]) ∧ ExAt H e u ∧ ExAt H f y
theorem ExAt.mono {H H' : Hp} (t : Tups H H') : ∀ {e : Ex} {v : V}, ExAt H e v → ExAt H' e v
  | .int n, v, ⟨a, e1, e2⟩ => ⟨a, e1, t _ _ e2⟩
  | .var n, v, ⟨a, e1, e2⟩ => ⟨a, e1, t _ _ e2⟩
  | .load e, v, ⟨a, u, e1, e2, h⟩ => ⟨a, u, e1, t _ _ e2, ExAt.mono t h⟩
  | .one op e, v, ⟨a, u, e1, e2, h⟩ => ⟨a, u, e1, t _ _ e2, ExAt.mono t h⟩
  | .two op e f, v, ⟨a, u, y, e1, e2, h, h2⟩ => ⟨a, u, y, e1, t _ _ e2, ExAt.mono t h, ExAt.mono t h2⟩
def Ex.deep : Ex → Nat
  | .int _ => 1
  | .var _ => 1
  | .load e => e.deep + 1
  | .one _ e => e.deep + 1
  | .two _ e f => max e.deep f.deep + 1
def tenS : List Str := ["add", "sub", "mul", "and", "or", "xor", "shl", "shr", "less", "equal"]
theorem ten_eq : ten = tenS.map V.str := rfl
def EOk (W : Nat) : Ex → Prop
  | .int n => n < 2 ^ W
  | .var x => x ∈ uni
  | .load e => EOk W e
  | .one op e => (op = "not" ∨ op = "neg") ∧ EOk W e
  | .two op e f => op ∈ tenS ∧ EOk W e ∧ EOk W f
def pKv (d : Addr) (W : Nat) (vl : Addr) : List (Key × V) := [(Sum.inr "draw", .ref d), (Sum.inr "width", .int (W : Int)), (Sum.inr "variables", .ref vl)]
theorem kv_draw {d : Addr} {W : Nat} {vl : Addr} : valV (pKv d W vl) (Sum.inr "draw") = some (.ref d) := rfl
theorem kv_width {d : Addr} {W : Nat} {vl : Addr} : valV (pKv d W vl) (Sum.inr "width") = some (.int (W : Int)) := rfl
theorem kv_vars {d : Addr} {W : Nat} {vl : Addr} : valV (pKv d W vl) (Sum.inr "variables") = some (.ref vl) := rfl
/-- what the making of a function goes by -/
structure Mk (H : Hp) (pa d c vl : Addr) (ns : List Int) (W : Nat) (vars : List Nat) : Prop where
  drd : Drd H d c ns
  p : H pa = some (.dK (pKv d W vl))
  vt : H vl = some (.lst (vars.map fun n : Nat => V.int (n : Int)))
  v0 : 0 < vars.length
  v1 : vars.length ≤ 7
  lt : ∀ x ∈ vars, x ∈ uni
  w1 : 1 ≤ W
  w16 : W ≤ 16
theorem Mk.npd {H : Hp} {pa d c vl : Addr} {ns : List Int} {W : Nat} {vars : List Nat} (M : Mk H pa d c vl ns W vars) : pa ≠ d := by
  obtain ⟨k, l, z, D⟩ := M.drd
  exact ne_of M.p D.at_ (by intro q; cases q)
theorem Mk.nvd {H : Hp} {pa d c vl : Addr} {ns : List Int} {W : Nat} {vars : List Nat} (M : Mk H pa d c vl ns W vars) : vl ≠ d := by
  obtain ⟨k, l, z, D⟩ := M.drd
  refine ne_of M.vt D.at_ (fun q => ?_)
  have h := M.v0
  cases vars with
  | nil => exact absurd h (by decide)
  | cons x r =>
    have q1 := HO.lst.inj q
    have q2 := (List.cons.inj q1).1
    cases q2
theorem Mk.next {H H' : Hp} {pa d c vl : Addr} {ns : List Int} {W : Nat} {vars : List Nat} (M : Mk H pa d c vl ns W vars) (D : Drd H' d c ns) (k : Keep d H H') : Mk H' pa d c vl ns W vars :=
  ⟨D, k _ _ M.p M.npd, k _ _ M.vt M.nvd, M.v0, M.v1, M.lt, M.w1, M.w16⟩
theorem Mk.same {H H' : Hp} {pa d c vl : Addr} {ns : List Int} {W : Nat} {vars : List Nat} (M : Mk H pa d c vl ns W vars) (k : Same H H') : Mk H' pa d c vl ns W vars := M.next (M.drd.same k) (Keep.of k)
def spE : Nat → Sp
  | 0 => fun _ _ _ _ => False
  | n + 1 => fun vs H Q _ => ∃ (pa d c vl : Addr) (ns : List Int) (W : Nat) (vars : List Nat), vs = [.ref pa, .int (n : Int)] ∧ Mk H pa d c vl ns W vars ∧
      ∀ (e : Ex) (v : V) (H' : Hp), EOk W e → e.deep ≤ n + 1 → ExAt H' e v → Mk H' pa d c vl ns W vars → Keep d H H' → Q v H'
theorem tSeq_go {t u : TS} {D : Ends} {σ : L2.St} {H : Hp} (h : t { D with nx := u D } σ H) : tSeq t u D σ H := h
theorem deep_le {a b n : Nat} (h1 : a ≤ n) (h2 : b ≤ n) : max a b + 1 ≤ n + 1 := by omega
theorem twelve_ix {k : Nat} (hk : k < 12) : ∃ j : Nat, ([.int 0, .int 0, .int 1, .int 2, .int 3, .int 4, .int 5, .int 6, .int 7, .int 8, .int 9, .int 0] : List V)[k]? = some (.int (j : Int)) ∧ j < 10 := by
  match k, hk with
  | 0, _ => exact ⟨0, rfl, by decide⟩
  | 1, _ => exact ⟨0, rfl, by decide⟩
  | 2, _ => exact ⟨1, rfl, by decide⟩
  | 3, _ => exact ⟨2, rfl, by decide⟩
  | 4, _ => exact ⟨3, rfl, by decide⟩
  | 5, _ => exact ⟨4, rfl, by decide⟩
  | 6, _ => exact ⟨5, rfl, by decide⟩
  | 7, _ => exact ⟨6, rfl, by decide⟩
  | 8, _ => exact ⟨7, rfl, by decide⟩
  | 9, _ => exact ⟨8, rfl, by decide⟩
  | 10, _ => exact ⟨9, rfl, by decide⟩
  | 11, _ => exact ⟨0, rfl, by decide⟩
  | k + 12, h => omega
section
variable {P : Program} {w : World} {K : PySem.W.Frag} {mg : Str → Option Value} {base : Heap}
theorem scExpr : FnScope ["p", "depth", "draw", "k", "op"] ["p", "depth"] (defScope sExpr) := ⟨rfl, rfl, rfl, by decide +kernel, rfl, by decide +kernel, by decide +kernel⟩
theorem ok_expr {f : Addr} {fd : FuncData} (F : Fun K "_law_expression" "_law_expression" sExpr f fd) (mE : mg "_law_expression" = some (.ref f)) (kE : PySem.W.keepIn K (.ref f) = true) (bE : Binds K fd ["p", "depth"] []) (ml : mg "len" = none)
    (GT : Got P w K mg base 1 "_law_take" ["draw", "many"] spTake) (GW : Got P w K mg base 2 "_law_word" ["draw", "w"] spWord) (GP : Got P w K mg base 1 "_law_pairs" [] spPairs) : ∀ n, FnOk P w K mg base CX0 (3 + n) f fd ["p", "depth"] (spE n) := by
  obtain ⟨fT, fdT, GT, mT, kT, bT⟩ := GT.ex
  obtain ⟨fW, fdW, GW, mW, kW, bW⟩ := GW.ex
  obtain ⟨fP, fdP, GP, mP, kP, bP⟩ := GP.ex
  intro n
  induction n with
  | zero => exact (F.ok (k := 2) scExpr (fun vs H Q E h => h.elim) (fun cdv A outer s H vs Q E hr h => h.elim))
  | succ n ih =>
    have e0 : 3 + (n + 1) = (3 + n) + 1 := by omega
    rw [e0]
    refine F.ok scExpr (fun vs H Q E h => ?_) (fun cdv A outer s H vs Q E hr h => ?_)
    · obtain ⟨pa, d, c, vl, ns, W, vars, rfl, _⟩ := h
      rfl
    · obtain ⟨pa, d, c, vl, ns, W, vars, rfl, M, q⟩ := h
      have nd := scExpr.nd
      have hu := hu_of hr
      have hr1 : Room 1 _ := hr.mono (by omega)
      have hr2 : Room 2 _ := hr.mono (by omega)
      refine ⟨_, pss_cons (ps_set (i := 2) nd rfl (.inl rfl) (pe_dget hu (pv 0) pe_str (fun _ _ => rfl)))
        (pss_cons (ps_set (i := 3) nd rfl (.inl rfl) (pe_call GT hr1 (by rfl) mT kT bT .nil pass0 (pa_cons (pv 2) (pa_cons pe_int pa_nil))))
        (pss_cons (ps_if (PW.pt (pw_or (pt_cmpR op_eq (pv 1) pe_int (nomark _)) (pw_or1 (pt_cmpR op_lt (pv 3) pe_int (nomark _)))))
          (pss_cons (ps_if (pt_cmpR op_eq (pe_call GT hr1 (by rfl) mT kT bT .nil pass0 (pa_cons (pv 2) (pa_cons pe_int pa_nil))) pe_int (nomark _))
              (pss_one (ps_ret (pe_tup (pa_cons pe_str (pa_cons (pe_call GW hr2 (by rfl) mW kW bW .nil pass0 (pa_cons (pv 2) (pa_cons (pe_dget hu (pv 0) pe_str (fun _ _ => rfl)) pa_nil))) pa_nil))))) pss_nil)
            (pss_one (ps_ret (pe_tup (pa_cons pe_str (pa_cons (pe_ix ix_list (pe_dget hu (pv 0) pe_str (fun _ _ => rfl)) (pe_call GT hr1 (by rfl) mT kT bT .nil pass0 (pa_cons (pv 2) (pa_cons (pe_callB call_len_seq (by rfl) ml PySem.boot_len (pa_cons (pe_dget hu (pv 0) pe_str (fun _ _ => rfl)) pa_nil)) pa_nil))) (fun _ _ => rfl)) pa_nil)))))) pss_nil)
        (pss_cons (ps_if (pt_cmpR op_eq (pv 3) pe_int (nomark _)) (pss_one (ps_ret (pe_tup (pa_cons pe_str (pa_cons (pe_call ih hr (by rfl) mE kE bE .nil pass0 (pa_cons (pv 0) (pa_cons (pe_op op_sub (pv 1) pe_int) pa_nil))) pa_nil))))) pss_nil)
        (pss_cons (ps_if (pt_cmpR op_eq (pv 3) pe_int (nomark _)) (pss_one (ps_ret (pe_tup (pa_cons (pe_ix ix_list (pe_lst (pa_cons pe_str (pa_cons pe_str pa_nil))) (pe_call GT hr1 (by rfl) mT kT bT .nil pass0 (pa_cons (pv 2) (pa_cons pe_int pa_nil))) (fun _ _ => rfl)) (pa_cons (pe_call ih hr (by rfl) mE kE bE .nil pass0 (pa_cons (pv 0) (pa_cons (pe_op op_sub (pv 1) pe_int) pa_nil))) pa_nil))))) pss_nil)
        (pss_cons (ps_set (i := 4) nd rfl (.inl rfl) (pe_ix ix_list (pe_call0 GP hr1 (by rfl) mP kP bP .nil pass0)
            (pe_ix ix_list (pe_lst (pa_cons pe_int (pa_cons pe_int (pa_cons pe_int (pa_cons pe_int (pa_cons pe_int (pa_cons pe_int (pa_cons pe_int (pa_cons pe_int (pa_cons pe_int (pa_cons pe_int (pa_cons pe_int (pa_cons pe_int pa_nil))))))))))))) (pe_call GT hr1 (by rfl) mT kT bT .nil pass0 (pa_cons (pv 2) (pa_cons pe_int pa_nil))) (fun _ _ => rfl)) (fun _ _ => rfl)))
        (pss_one (ps_ret (pe_tup (pa_cons (pv 4) (pa_cons (pe_call ih hr (by rfl) mE kE bE .nil pass0 (pa_cons (pv 0) (pa_cons (pe_op op_sub (pv 1) pe_int) pa_nil))) (pa_cons (pe_call ih hr (by rfl) mE kE bE .nil pass0 (pa_cons (pv 0) (pa_cons (pe_op op_sub (pv 1) pe_int) pa_nil))) pa_nil))))))))))), ?_⟩
      -- draw = p['draw']; k = _law_take(draw, 10)
      refine ⟨_, rfl, pa, _, rfl, DGet.k (k := Sum.inr "draw") M.p, ?_⟩
      refine ⟨_, rfl, d, c, ns, 10, rfl, M.drd, by decide, by decide, fun k H1 hk D1 kp1 => ?_⟩
      have M1 := M.next D1 kp1
      refine gName_go (nx_go (tSeq_go (tIfS_val (or_val (fun Q q => ⟨_, rfl, rfl, _, rfl, q⟩) (fun Q q => ⟨_, rfl, _, _, rfl, rfl, _, rfl, q⟩)) (ite2 (fun e => ?_) (fun e => ?_)))))
      · refine ⟨_, rfl, d, c, ns, 3, rfl, M1.drd, by decide, by decide, fun k2 H2 hk2 D2 kp2 => ⟨rfl, _, rfl, ite2 (fun e => ?_) (fun e => ?_)⟩⟩
        · have M2 := M1.next D2 kp2
          refine ⟨_, rfl, _, rfl, pa, _, rfl, DGet.k (k := Sum.inr "width") M2.p, d, c, ns, W, rfl, M2.drd, M2.w1, M2.w16, fun z H3 hz D3 kp3 => ⟨(by show 2 ≤ sizeLine; decide), fun p hp => ?_⟩⟩
          exact q (.int z) (.ref p) _ hz (Nat.le_add_left 1 n) ⟨p, rfl, upd_same⟩ ((M2.next D3 kp3).same (same_new hp)) (((kp1.trans kp2).trans kp3).trans (Keep.of (same_new hp)))
        · have M2 := M1.next D2 kp2
          have hlen : ((vars.map fun n : Nat => V.int (n : Int)).length : Int) = (vars.length : Int) := by rw [List.length_map]
          have hv0 := M2.v0
          have hv1 := M2.v1
          refine ⟨_, rfl, pa, _, rfl, DGet.k (k := Sum.inr "variables") M2.p, _, rfl, _, rfl, pa, _, rfl, DGet.k (k := Sum.inr "variables") M2.p, vl, _, rfl, .inl (.of M2.vt), d, c, ns, _, rfl, M2.drd, by omega, by omega, fun z H3 hz D3 kp3 => ?_⟩
          have hzl : z < vars.length := by omega
          have M3 := M2.next D3 kp3
          have hv : (vars.map fun n : Nat => V.int (n : Int))[z]? = some (.int (vars[z] : Int)) := by
            rw [List.getElem?_map, List.getElem?_eq_getElem hzl]
            rfl
          refine ⟨vl, _, _, _, rfl, rfl, .of M3.vt, atI_nat hv, (by show 2 ≤ sizeLine; decide), fun p hp => ?_⟩
          exact q (.var vars[z]) (.ref p) _ (M3.lt _ (List.getElem_mem hzl)) (Nat.le_add_left 1 n) ⟨p, rfl, upd_same⟩ (M3.same (same_new hp)) (((kp1.trans kp2).trans kp3).trans (Keep.of (same_new hp)))
      · obtain ⟨m, rfl⟩ : ∃ m, n = m + 1 := by
          cases n with
          | zero => exact absurd rfl e
          | succ m => exact ⟨m, rfl⟩
        have em : (((m + 1 : Nat) : Int) - 1) = (m : Int) := by omega
        refine ⟨_, rfl, rfl, _, rfl, ite2 (fun e4 => ?_) (fun e4 => ?_)⟩
        · refine ⟨_, rfl, _, rfl, _, _, rfl, rfl, pa, d, c, vl, ns, W, vars, congrArg (fun z => [V.ref pa, V.int z]) em, M1, fun e v H2 ok dp at_ M2 kp2 => ⟨(by show 2 ≤ sizeLine; decide), fun p hp => ?_⟩⟩
          exact q (.load e) (.ref p) _ ok (Nat.succ_le_succ dp) ⟨p, v, rfl, upd_same, at_.mono (Tups.of (same_new hp))⟩ (M2.same (same_new hp)) ((kp1.trans kp2).trans (Keep.of (same_new hp)))
        refine ⟨_, rfl, rfl, _, rfl, ite2 (fun e5 => ?_) (fun e5 => ?_)⟩
        · refine ⟨(by show 2 ≤ sizeLine; decide), fun p0 hp0 => ?_⟩
          have Ma := M1.same (same_new (o := .lst [.str "not", .str "neg"]) hp0)
          refine ⟨_, rfl, d, c, ns, 2, rfl, Ma.drd, by decide, by decide, fun k2 H3 hk2 D3 kp3 => ?_⟩
          obtain ⟨op, hop, ho⟩ : ∃ op : Str, ([.str "not", .str "neg"] : List V)[k2]? = some (.str op) ∧ (op = "not" ∨ op = "neg") := by
            have h2 : k2 < 2 := by omega
            match k2, h2 with
            | 0, _ => exact ⟨_, rfl, .inl rfl⟩
            | 1, _ => exact ⟨_, rfl, .inr rfl⟩
            | k + 2, h => omega
          refine ⟨p0, _, _, _, rfl, rfl, .of (kp3 p0 _ upd_same (M1.drd.ne hp0)), atI_nat hop, ?_⟩
          refine ⟨_, rfl, _, rfl, _, _, rfl, rfl, pa, d, c, vl, ns, W, vars, congrArg (fun z => [V.ref pa, V.int z]) em, Ma.next D3 kp3, fun e v H2 ok dp at_ M2 kp2 => ⟨(by show 2 ≤ sizeLine; decide), fun p hp => ?_⟩⟩
          exact q (.one op e) (.ref p) _ ⟨ho, ok⟩ (Nat.succ_le_succ dp) ⟨p, v, rfl, upd_same, at_.mono (Tups.of (same_new hp))⟩ (M2.same (same_new hp)) ((((kp1.trans (Keep.of (same_new hp0))).trans kp3).trans kp2).trans (Keep.of (same_new hp)))
        refine ⟨rfl, fun p4 hp4 => ⟨(by show 12 ≤ sizeLine; decide), fun p5 hp5 => ?_⟩⟩
        have n45 : p4 ≠ p5 := ne_of_none upd_same hp5
        have Ma := (M1.same (same_new (o := .lst ten) hp4)).same (same_new (o := .lst [.int 0, .int 0, .int 1, .int 2, .int 3, .int 4, .int 5, .int 6, .int 7, .int 8, .int 9, .int 0]) hp5)
        refine ⟨_, rfl, d, c, ns, 12, rfl, Ma.drd, by decide, by decide, fun k2 H3 hk2 D3 kp3 => ?_⟩
        obtain ⟨j, hj, hj10⟩ := twelve_ix (k := k2) (by omega)
        have hjl : j < tenS.length := hj10
        have hop : ten[j]? = some (.str tenS[j]) := by
          rw [ten_eq, List.getElem?_map, List.getElem?_eq_getElem hjl]
          rfl
        have np4 : p4 ≠ d := M1.drd.ne hp4
        have np5 : p5 ≠ d := (M1.same (same_new hp4)).drd.ne hp5
        refine ⟨p5, _, _, _, rfl, rfl, .of (kp3 p5 _ upd_same np5), atI_nat hj, p4, _, _, _, rfl, rfl, .of (kp3 p4 _ (by rw [upd_ne n45]; exact upd_same) np4), atI_nat hop, ?_⟩
        refine ⟨_, rfl, _, rfl, _, rfl, _, _, rfl, rfl, pa, d, c, vl, ns, W, vars, congrArg (fun z => [V.ref pa, V.int z]) em, Ma.next D3 kp3, fun e v H4 ok dp at_ M4 kp4 => ?_⟩
        refine ⟨_, rfl, _, rfl, _, _, rfl, rfl, pa, d, c, vl, ns, W, vars, congrArg (fun z => [V.ref pa, V.int z]) em, M4, fun e2 v2 H5 ok2 dp2 at2 M5 kp5 => ⟨(by show 3 ≤ sizeLine; decide), fun p hp => ?_⟩⟩
        exact q (.two tenS[j] e e2) (.ref p) _ ⟨List.getElem_mem hjl, ok, ok2⟩ (deep_le dp dp2) ⟨p, v, v2, rfl, upd_same, (at_.mono (Tups.keep M4.drd kp5)).mono (Tups.of (same_new hp)), at2.mono (Tups.of (same_new hp))⟩ (M5.same (same_new hp))
          ((((((kp1.trans (Keep.of (same_new hp4))).trans (Keep.of (same_new hp5))).trans kp3).trans kp4).trans kp5).trans (Keep.of (same_new hp)))
end
end K0

set_option Elab.async false
set_option linter.all false
set_option maxRecDepth 100000
set_option maxHeartbeats 1000000
namespace K0
open PySem L2
inductive Sm where
  | set (x : Nat) (e : Ex)
  | write (e : Ex)
  | store (a e : Ex)
def SmAt (H : Hp) : Sm → V → Prop
  | .set x e, v => ∃ a u, v = .ref a ∧ H a = some (.tup [.str "set", .int (x : Int), u]) ∧ ExAt H e u
  | .write e, v => ∃ a u, v = .ref a ∧ H a = some (.tup [.str "write", u]) ∧ ExAt H e u
  | .store z e, v => ∃ a u y, v = .ref a ∧ H a = some (.tup [.str "store", u, y]) ∧ ExAt H z u ∧ ExAt H e y
theorem SmAt.mono {H H' : Hp} (t : Tups H H') : ∀ {s : Sm} {v : V}, SmAt H s v → SmAt H' s v
  | .set x e, v, ⟨a, u, e1, e2, h⟩ => ⟨a, u, e1, t _ _ e2, h.mono t⟩
  | .write e, v, ⟨a, u, e1, e2, h⟩ => ⟨a, u, e1, t _ _ e2, h.mono t⟩
  | .store z e, v, ⟨a, u, y, e1, e2, h, h2⟩ => ⟨a, u, y, e1, t _ _ e2, h.mono t, h2.mono t⟩
/-- a right expression that nests at most three deep -/
def E3 (W : Nat) (e : Ex) : Prop := EOk W e ∧ e.deep ≤ 3
def SmOk (W : Nat) : Sm → Prop
  | .set x e => x ∈ uni ∧ E3 W e
  | .write e => E3 W e
  | .store a e => E3 W a ∧ E3 W e
def spS : Sp := fun vs H Q _ => ∃ (pa d c vl : Addr) (ns : List Int) (W : Nat) (vars : List Nat), vs = [.ref pa] ∧ Mk H pa d c vl ns W vars ∧
  ∀ (s : Sm) (v : V) (H' : Hp), SmOk W s → SmAt H' s v → Mk H' pa d c vl ns W vars → Keep d H H' → Q v H'
/-- the maker of expressions as it is called -/
structure GotE (P : Program) (w : World) (K : PySem.W.Frag) (mg : Str → Option Value) (base : Heap) : Prop where
  ex : ∃ (f : Addr) (fd : FuncData), (∀ n, FnOk P w K mg base CX0 (3 + n) f fd ["p", "depth"] (spE n)) ∧ mg "_law_expression" = some (.ref f) ∧ PySem.W.keepIn K (.ref f) = true ∧ Binds K fd ["p", "depth"] []
section
variable {P : Program} {w : World} {K : PySem.W.Frag} {mg : Str → Option Value} {base : Heap}
theorem scStmt : FnScope ["p", "draw", "k"] ["p"] (defScope sStmt) := ⟨rfl, rfl, rfl, by decide +kernel, rfl, by decide +kernel, by decide +kernel⟩
theorem ok_stmt {f : Addr} {fd : FuncData} (F : Fun K "_law_statement" "_law_statement" sStmt f fd) (ml : mg "len" = none)
    (GT : Got P w K mg base 1 "_law_take" ["draw", "many"] spTake) (GE : GotE P w K mg base) : FnOk P w K mg base CX0 7 f fd ["p"] spS := by
  obtain ⟨fT, fdT, GT, mT, kT, bT⟩ := GT.ex
  obtain ⟨fE, fdE, GE, mE, kE, bE⟩ := GE.ex
  have G2 := GE 3
  have G1 := GE 2
  refine F.ok scStmt (fun vs H Q E h => ?_) (fun cdv A outer s H vs Q E hr h => ?_)
  · obtain ⟨pa, d, c, vl, ns, W, vars, rfl, _⟩ := h
    rfl
  · obtain ⟨pa, d, c, vl, ns, W, vars, rfl, M, q⟩ := h
    have nd := scStmt.nd
    have hu := hu_of hr
    have hr1 : Room 1 _ := hr.mono (by decide)
    have hrE : Room (3 + 3) _ := hr
    have hrF : Room (3 + 2) _ := hr.mono (by decide)
    refine ⟨_, pss_cons (ps_set (i := 1) nd rfl (.inl rfl) (pe_dget hu (pv 0) pe_str (fun _ _ => rfl)))
      (pss_cons (ps_set (i := 2) nd rfl (.inl rfl) (pe_call GT hr1 (by rfl) mT kT bT .nil pass0 (pa_cons (pv 1) (pa_cons pe_int pa_nil))))
      (pss_cons (ps_if (pt_cmpR op_lt (pv 2) pe_int (nomark _)) (pss_one (ps_ret (pe_tup (pa_cons pe_str (pa_cons
          (pe_ix ix_list (pe_dget hu (pv 0) pe_str (fun _ _ => rfl)) (pe_call GT hr1 (by rfl) mT kT bT .nil pass0 (pa_cons (pv 1) (pa_cons (pe_callB call_len_seq (by rfl) ml PySem.boot_len (pa_cons (pe_dget hu (pv 0) pe_str (fun _ _ => rfl)) pa_nil)) pa_nil))) (fun _ _ => rfl))
          (pa_cons (pe_call G2 hrE (by rfl) mE kE bE .nil pass0 (pa_cons (pv 0) (pa_cons pe_int pa_nil))) pa_nil)))))) pss_nil)
      (pss_cons (ps_if (pt_cmpR op_lt (pv 2) pe_int (nomark _)) (pss_one (ps_ret (pe_tup (pa_cons pe_str (pa_cons (pe_call G2 hrE (by rfl) mE kE bE .nil pass0 (pa_cons (pv 0) (pa_cons pe_int pa_nil))) pa_nil))))) pss_nil)
      (pss_one (ps_ret (pe_tup (pa_cons pe_str (pa_cons (pe_call G1 hrF (by rfl) mE kE bE .nil pass0 (pa_cons (pv 0) (pa_cons pe_int pa_nil))) (pa_cons (pe_call G2 hrE (by rfl) mE kE bE .nil pass0 (pa_cons (pv 0) (pa_cons pe_int pa_nil))) pa_nil))))))))), ?_⟩
    refine ⟨_, rfl, pa, _, rfl, DGet.k (k := Sum.inr "draw") M.p, ?_⟩
    refine ⟨_, rfl, d, c, ns, 8, rfl, M.drd, by decide, by decide, fun k H1 hk D1 kp1 => ?_⟩
    have M1 := M.next D1 kp1
    have hlen : ((vars.map fun n : Nat => V.int (n : Int)).length : Int) = (vars.length : Int) := by rw [List.length_map]
    have hv0 := M1.v0
    have hv1 := M1.v1
    refine ⟨_, rfl, _, _, rfl, rfl, _, rfl, ite2 (fun e => ?_) (fun e => ?_)⟩
    · refine ⟨_, rfl, pa, _, rfl, DGet.k (k := Sum.inr "variables") M1.p, _, rfl, _, rfl, pa, _, rfl, DGet.k (k := Sum.inr "variables") M1.p, vl, _, rfl, .inl (.of M1.vt), d, c, ns, _, rfl, M1.drd, by omega, by omega, fun z H3 hz D3 kp3 => ?_⟩
      have hzl : z < vars.length := by omega
      have M3 := M1.next D3 kp3
      have hv : (vars.map fun n : Nat => V.int (n : Int))[z]? = some (.int (vars[z] : Int)) := by
        rw [List.getElem?_map, List.getElem?_eq_getElem hzl]
        rfl
      refine ⟨vl, _, _, _, rfl, rfl, .of M3.vt, atI_nat hv, ?_⟩
      refine ⟨_, rfl, pa, d, c, vl, ns, W, vars, rfl, M3, fun e v H4 ok dp at_ M4 kp4 => ⟨(by show 3 ≤ sizeLine; decide), fun p hp => ?_⟩⟩
      exact q (.set vars[z] e) (.ref p) _ ⟨M3.lt _ (List.getElem_mem hzl), ok, dp⟩ ⟨p, v, rfl, upd_same, at_.mono (Tups.of (same_new hp))⟩ (M4.same (same_new hp)) (((kp1.trans kp3).trans kp4).trans (Keep.of (same_new hp)))
    refine ⟨_, rfl, _, _, rfl, rfl, _, rfl, ite2 (fun e => ?_) (fun e => ?_)⟩
    · refine ⟨_, rfl, pa, d, c, vl, ns, W, vars, rfl, M1, fun e v H4 ok dp at_ M4 kp4 => ⟨(by show 2 ≤ sizeLine; decide), fun p hp => ?_⟩⟩
      exact q (.write e) (.ref p) _ ⟨ok, dp⟩ ⟨p, v, rfl, upd_same, at_.mono (Tups.of (same_new hp))⟩ (M4.same (same_new hp)) ((kp1.trans kp4).trans (Keep.of (same_new hp)))
    refine ⟨_, rfl, pa, d, c, vl, ns, W, vars, rfl, M1, fun e v H4 ok dp at_ M4 kp4 => ?_⟩
    refine ⟨_, rfl, pa, d, c, vl, ns, W, vars, rfl, M4, fun e2 v2 H5 ok2 dp2 at2 M5 kp5 => ⟨(by show 3 ≤ sizeLine; decide), fun p hp => ?_⟩⟩
    exact q (.store e e2) (.ref p) _ ⟨⟨ok, Nat.le_succ_of_le dp⟩, ok2, dp2⟩ ⟨p, v, v2, rfl, upd_same, (at_.mono (Tups.keep M4.drd kp5)).mono (Tups.of (same_new hp)), at2.mono (Tups.of (same_new hp))⟩ (M5.same (same_new hp)) (((kp1.trans kp4).trans kp5).trans (Keep.of (same_new hp)))
end
end K0

set_option Elab.async false
set_option linter.all false
set_option maxRecDepth 100000
set_option maxHeartbeats 2000000
namespace K0
open PySem L2
inductive En where
  | go (l : Nat)
  | iff (e : Ex) (l m : Nat)
  | ret (e : Ex)
structure Bl where
  label : Nat
  body : List Sm
  fin : En
structure Fn where
  width : Nat
  params : Nat
  blocks : List Bl
def EnAt (H : Hp) : En → V → Prop
  | .go l, v => ∃ a, v = .ref a ∧ H a = some (.tup [.str "go", .int (l : Int)])
  | .iff e l m, v => ∃ a u, v = .ref a ∧ H a = some (.tup [.str "if", u, .int (l : Int), .int (m : Int)]) ∧ ExAt H e u
  | .ret e, v => ∃ a u, v = .ref a ∧ H a = some (.tup [.str "return", u]) ∧ ExAt H e u
theorem EnAt.mono {H H' : Hp} (t : Tups H H') : ∀ {s : En} {v : V}, EnAt H s v → EnAt H' s v
  | .go l, v, ⟨a, e1, e2⟩ => ⟨a, e1, t _ _ e2⟩
  | .iff e l m, v, ⟨a, u, e1, e2, h⟩ => ⟨a, u, e1, t _ _ e2, h.mono t⟩
  | .ret e, v, ⟨a, u, e1, e2, h⟩ => ⟨a, u, e1, t _ _ e2, h.mono t⟩
theorem Sms.mono {H H' : Hp} (t : Tups H H') {ss : List Sm} {vs : List V} (h : Paired (SmAt H) ss vs) : Paired (SmAt H') ss vs := L2.Paired.mapP h fun _ _ => SmAt.mono t
def BlAt (H : Hp) (b : Bl) (v : V) : Prop := ∃ a s u vs, v = .ref a ∧ H a = some (.tup [.int (b.label : Int), .ref s, u]) ∧ H s = some (.tup vs) ∧ Paired (SmAt H) b.body vs ∧ EnAt H b.fin u
theorem BlAt.mono {H H' : Hp} (t : Tups H H') {b : Bl} {v : V} : BlAt H b v → BlAt H' b v := fun ⟨a, s, u, vs, e1, e2, e3, h, k⟩ => ⟨a, s, u, vs, e1, t _ _ e2, t _ _ e3, Sms.mono t h, k.mono t⟩
theorem Bls.mono {H H' : Hp} (t : Tups H H') {bs : List Bl} {vs : List V} (h : Paired (BlAt H) bs vs) : Paired (BlAt H') bs vs := L2.Paired.mapP h fun _ _ => BlAt.mono t
def FnAt (H : Hp) (F : Fn) (v : V) : Prop := ∃ a b rows, v = .ref a ∧ H a = some (.tup [.int (F.width : Int), .int (F.params : Int), .ref b]) ∧ H b = some (.tup rows) ∧ Paired (BlAt H) F.blocks rows
theorem FnAt.mono {H H' : Hp} (t : Tups H H') {F : Fn} {v : V} : FnAt H F v → FnAt H' F v := fun ⟨a, b, rows, e1, e2, e3, h⟩ => ⟨a, b, rows, e1, t _ _ e2, t _ _ e3, Bls.mono t h⟩
/-- an end whose labels are among these -/
def EnOk (W : Nat) (ls : List Nat) : En → Prop
  | .go l => l ∈ ls
  | .iff e l m => E3 W e ∧ l ∈ ls ∧ m ∈ ls
  | .ret e => E3 W e
def BlOk (W mo : Nat) (ls : List Nat) (b : Bl) : Prop := (∀ s ∈ b.body, SmOk W s) ∧ b.body.length ≤ mo ∧ EnOk W ls b.fin
structure FnOk' (nb mo : Nat) (F : Fn) : Prop where
  w1 : 1 ≤ F.width
  w16 : F.width ≤ 16
  pr : F.params ≤ 6
  b1 : 1 ≤ F.blocks.length
  bn : F.blocks.length ≤ nb
  nd : (F.blocks.map (·.label)).Nodup
  lt : ∀ b ∈ F.blocks, b.label < 1000
  ok : ∀ b ∈ F.blocks, BlOk F.width mo (F.blocks.map (·.label)).tail b
def spF : Sp := fun vs H Q _ => ∃ (d c : Addr) (ns : List Int) (nb mo : Nat), vs = [.ref d, .int (nb : Int), .int (mo : Int)] ∧ Drd H d c ns ∧ 1 ≤ nb ∧ nb ≤ 40 ∧ mo ≤ 40 ∧
  ∀ (F : Fn) (v : V) (H' : Hp), FnOk' nb mo F → FnAt H' F v → Drd H' d c ns → Keep d H H' → Q v H'
/-! slices -/
theorem cut_to (xs : List V) (n : Nat) : cutV xs none (some (n : Int)) = xs.take n := by
  unfold cutV
  rw [HT.sIx_none, HT.sIx_nat, List.drop_zero, Nat.sub_zero]
  by_cases h : n ≤ xs.length
  · rw [Nat.min_eq_left h]
  · rw [Nat.min_eq_right (by omega), List.take_of_length_le (Nat.le_refl _), List.take_of_length_le (by omega)]
theorem cut_from (xs : List V) (n : Nat) : cutV xs (some (n : Int)) none = xs.drop n := by
  unfold cutV
  rw [HT.sIx_none, HT.sIx_nat]
  by_cases h : n ≤ xs.length
  · rw [Nat.min_eq_left h, List.take_of_length_le (by rw [List.length_drop]; exact Nat.le_refl _)]
  · rw [Nat.min_eq_right (by omega), List.drop_of_length_le (Nat.le_refl _), List.drop_of_length_le (by omega), List.take_nil]
/-! the state goes on: all but the draws stays -/
structure Go (d c : Addr) (ns : List Int) (H H' : Hp) : Prop where
  keep : Keep d H H'
  drd : Drd H' d c ns
theorem Go.start {d c : Addr} {ns : List Int} {H : Hp} (D : Drd H d c ns) : Go d c ns H H := ⟨Keep.refl _ _, D⟩
theorem Go.step {d c : Addr} {ns : List Int} {H H1 H2 : Hp} (g : Go d c ns H H1) (D : Drd H2 d c ns) (k : Keep d H1 H2) : Go d c ns H H2 := ⟨g.keep.trans k, D⟩
theorem Go.new {d c p : Addr} {ns : List Int} {H H1 : Hp} {o : HO} (g : Go d c ns H H1) (h : H1 p = none) : Go d c ns H (upd H1 p o) := ⟨g.keep.trans (Keep.of (same_new h)), g.drd.same (same_new h)⟩
theorem Go.tups {d c : Addr} {ns : List Int} {H H' : Hp} (D : Drd H d c ns) (g : Go d c ns H H') : Tups H H' := Tups.keep D g.keep
/-- an own new object is written -/
theorem Go.own {d c p : Addr} {ns : List Int} {H H1 : Hp} {o : HO} (D : Drd H d c ns) (g : Go d c ns H H1) (h : H p = none) : Go d c ns H (upd H1 p o) := by
  refine ⟨fun b u e n => ?_, ?_⟩
  · rw [upd_ne (ne_of_none e h)]
    exact g.keep b u e n
  · obtain ⟨k0, l0, s0, D0⟩ := D
    obtain ⟨k, l, s, D1⟩ := g.drd
    have nd : d ≠ p := ne_of_none D0.at_ h
    have nc : c ≠ p := ne_of_none D0.cells h
    exact ⟨k, l, s, ⟨by rw [upd_ne nd]; exact D1.at_, by rw [upd_ne nc]; exact D1.cells, D1.ne, D1.k0, D1.l0, D1.s0, D1.s1, D1.pos⟩⟩
theorem Go.toMk {H H' : Hp} {pa d c vl : Addr} {ns : List Int} {W : Nat} {vars : List Nat} (M : Mk H pa d c vl ns W vars) (g : Go d c ns H H') : Mk H' pa d c vl ns W vars := M.next g.drd g.keep
theorem Tups.lst {H : Hp} {p : Addr} {xs ys : List V} (h : H p = some (.lst xs)) : Tups H (upd H p (.lst ys)) := fun b zs e => by
  rw [upd_ne (ne_of e h (by intro q; cases q))]
  exact e
/-! draws -/
theorem draw_wf {t : Nat} (ht : t < 16) {k : Nat} (hk : k < 7) : ∃ W : Nat, ([.int 1, .int 2, .int 3, .int 4, .int 8, .int 16, .int (1 + (t : Int))] : List V)[k]? = some (.int (W : Int)) ∧ 1 ≤ W ∧ W ≤ 16 := by
  match k, hk with
  | 0, _ => exact ⟨1, rfl, by decide, by decide⟩
  | 1, _ => exact ⟨2, rfl, by decide, by decide⟩
  | 2, _ => exact ⟨3, rfl, by decide, by decide⟩
  | 3, _ => exact ⟨4, rfl, by decide, by decide⟩
  | 4, _ => exact ⟨8, rfl, by decide, by decide⟩
  | 5, _ => exact ⟨16, rfl, by decide, by decide⟩
  | 6, _ => exact ⟨1 + t, congrArg (fun z => some (V.int z)) (by omega), by omega, by omega⟩
  | k + 7, h => omega
theorem draw_pr {t : Nat} (ht : t < 7) {k : Nat} (hk : k < 5) : ∃ r : Nat, ([.int 0, .int 1, .int 2, .int 3, .int (t : Int)] : List V)[k]? = some (.int (r : Int)) ∧ r ≤ 6 := by
  match k, hk with
  | 0, _ => exact ⟨0, rfl, by decide⟩
  | 1, _ => exact ⟨1, rfl, by decide⟩
  | 2, _ => exact ⟨2, rfl, by decide⟩
  | 3, _ => exact ⟨3, rfl, by decide⟩
  | 4, _ => exact ⟨t, rfl, by omega⟩
  | k + 5, h => omega
def vars0 : List Nat := [0, 1, 2, 3, 7, 40]
def vars1 : List Nat := [0, 1, 53, 3, 4, 5, 99]
abbrev iv (l : List Nat) : List V := l.map fun n : Nat => V.int (n : Int)
abbrev NF : List Str := ["draw", "blocks", "most", "width", "params", "variables", "p", "count", "k", "labels", "rows", "body", "what", "later", "end", "other", "j"]
theorem iv_len (l : List Nat) : ((iv l).length : Int) = (l.length : Int) := by rw [List.length_map]
theorem iv_get {l : List Nat} {z : Nat} (h : z < l.length) : (iv l)[z]? = some (.int (l[z] : Int)) := by
  rw [List.getElem?_map, List.getElem?_eq_getElem h]
  rfl
theorem dp_iv {K : PySem.W.Frag} {H : Hp} : ∀ l : List Nat, DpAll K H (iv l) (l.map fun n : Nat => PyData.int (n : Int))
  | [] => .nil
  | x :: r => .cons (.int _) (dp_iv r)
theorem can_iv : ∀ l : List Nat, PyData.canLayAll0 (l.map fun n : Nat => PyData.int (n : Int)) = true
  | [] => rfl
  | x :: r => by
    show (true && PyData.canLayAll0 (r.map _)) = true
    rw [can_iv r]
    rfl
theorem dep_iv : ∀ l : List Nat, PyData.depthAll (l.map fun n : Nat => PyData.int (n : Int)) ≤ 1
  | [] => by decide
  | x :: r => by
    have := dep_iv r
    show max (PyData.depth (.int x)) (PyData.depthAll (r.map _)) ≤ 1
    exact Nat.max_le.mpr ⟨by simp [PyData.depth], this⟩
theorem sh_iv (l : List Nat) : SeqAt.shaped (.list (l.map fun n : Nat => PyData.int (n : Int))) = true := by
  unfold SeqAt.shaped
  have h1 : PyData.canLay0 (.list (l.map fun n : Nat => PyData.int (n : Int))) = true := can_iv l
  have h2 := dep_iv l
  have h3 : PyData.depth (.list (l.map fun n : Nat => PyData.int (n : Int))) ≤ 64 := by
    show PyData.depthAll (l.map fun n : Nat => PyData.int (n : Int)) + 1 ≤ 64
    omega
  rw [h1, decide_eq_true h3]
  rfl
theorem eqv_nil (l : List Nat) : PyData.eqv (.list (l.map fun n : Nat => PyData.int (n : Int))) (.list []) = l.isEmpty := by
  cases l with
  | nil => rfl
  | cons x r => rfl
end K0

set_option Elab.async false
set_option linter.all false
set_option maxRecDepth 100000
set_option maxHeartbeats 2000000
namespace K0
open PySem L2
theorem Go.trans {d c : Addr} {ns : List Int} {H H1 H2 : Hp} (a : Go d c ns H H1) (b : Go d c ns H1 H2) : Go d c ns H H2 := ⟨a.keep.trans b.keep, b.drd⟩
theorem Go.new2 {d c p : Addr} {ns : List Int} {H H1 : Hp} {o u : HO} (g : Go d c ns H H1) (h : H1 p = none) : Go d c ns H (upd (upd H1 p o) p u) := by
  rw [upd_upd]
  exact g.new h
theorem prd_snoc {α β : Type} {F : α → β → Prop} : ∀ {xs : List α} {ys : List β} {x : α} {y : β}, Paired F xs ys → F x y → Paired F (xs ++ [x]) (ys ++ [y])
  | _, _, _, _, .nil, h => .cons h .nil
  | _, _, _, _, .cons a t, h => .cons a (prd_snoc t h)
theorem labs_succ (f : Nat → Nat) (i : Nat) : iv ((List.range (i + 1)).map f) = iv ((List.range i).map f) ++ [.int (f i : Int)] := by
  unfold iv
  rw [List.range_succ, List.map_append, List.map_append]
  rfl
theorem iv_take (l : List Nat) (n : Nat) : (iv l).take n = iv (l.take n) := by
  unfold iv
  rw [List.map_take]
theorem iv_drop (l : List Nat) (n : Nat) : (iv l).drop n = iv (l.drop n) := by
  unfold iv
  rw [List.map_drop]
theorem nd_inj {n : Nat} {f : Nat → Nat} (h : ∀ a b, a < b → b < n → f a ≠ f b) : ((List.range n).map f).Nodup := by
  refine List.pairwise_map.mpr (List.Pairwise.imp_of_mem (fun {a b} ha hb hl => h a b hl (List.mem_range.mp hb)) List.pairwise_lt_range)
section
variable {P : Program} {w : World} {K : PySem.W.Frag} {mg : Str → Option Value} {base : Heap}
theorem scFun : FnScope NF ["draw", "blocks", "most"] (defScope sFun) := ⟨rfl, rfl, rfl, by decide +kernel, rfl, by decide +kernel, by decide +kernel⟩
theorem ok_fun {f : Addr} {fd : FuncData} (F : Fun K "_law_function" "_law_function" sFun f fd) (ml : mg "len" = none) (mr : mg "range" = none) (mt : mg "tuple" = none)
    (GT : Got P w K mg base 1 "_law_take" ["draw", "many"] spTake) (GE : GotE P w K mg base) (GS : Got P w K mg base 7 "_law_statement" ["p"] spS) : FnOk P w K mg base CX0 8 f fd ["draw", "blocks", "most"] spF := by
  obtain ⟨fT, fdT, GT, mT, kT, bT⟩ := GT.ex
  obtain ⟨fE, fdE, GE, mE, kE, bE⟩ := GE.ex
  obtain ⟨fS, fdS, GS, mS, kS, bS⟩ := GS.ex
  have G2 := GE 3
  have G1 := GE 2
  refine F.ok scFun (fun vs H Q E h => ?_) (fun cdv A outer s H vs Q E hr h => ?_)
  · obtain ⟨d, c, ns, nb, mo, rfl, _⟩ := h
    rfl
  · obtain ⟨d, c, ns, nb, mo, rfl, D0, nb1, nb40, mo40, q⟩ := h
    have nd := scFun.nd
    have hu := hu_of hr
    have hr1 : Room 1 _ := hr.mono (by decide)
    have hrE : Room (3 + 3) _ := hr.mono (by decide)
    have hrF : Room (3 + 2) _ := hr.mono (by decide)
    refine ⟨_, (pss_cons (ps_set (i := 3) nd rfl (.inl rfl) (pe_ix (r := rIxL K) ix_list (pe_lst (pa_cons pe_int (pa_cons pe_int (pa_cons pe_int (pa_cons pe_int (pa_cons pe_int (pa_cons pe_int (pa_cons (pe_op op_add pe_int (pe_call GT hr1 (by rfl) mT kT bT .nil pass0 (pa_cons (pv 0) (pa_cons pe_int pa_nil)))) pa_nil)))))))) (pe_call GT hr1 (by rfl) mT kT bT .nil pass0 (pa_cons (pv 0) (pa_cons pe_int pa_nil))) (fun _ _ => rfl))) (pss_cons (ps_set (i := 4) nd rfl (.inl rfl) (pe_ix (r := rIxL K) ix_list (pe_lst (pa_cons pe_int (pa_cons pe_int (pa_cons pe_int (pa_cons pe_int (pa_cons (pe_call GT hr1 (by rfl) mT kT bT .nil pass0 (pa_cons (pv 0) (pa_cons pe_int pa_nil))) pa_nil)))))) (pe_call GT hr1 (by rfl) mT kT bT .nil pass0 (pa_cons (pv 0) (pa_cons pe_int pa_nil))) (fun _ _ => rfl))) (pss_cons (ps_set (i := 5) nd rfl (.inl rfl) (pe_slice sl_list (pe_ix (r := rIxL K) ix_list (pe_lst (pa_cons (pe_lst (pa_cons pe_int (pa_cons pe_int (pa_cons pe_int (pa_cons pe_int (pa_cons pe_int (pa_cons pe_int pa_nil))))))) (pa_cons (pe_lst (pa_cons pe_int (pa_cons pe_int (pa_cons pe_int (pa_cons pe_int (pa_cons pe_int (pa_cons pe_int (pa_cons pe_int pa_nil)))))))) pa_nil))) (pe_call GT hr1 (by rfl) mT kT bT .nil pass0 (pa_cons (pv 0) (pa_cons pe_int pa_nil))) (fun _ _ => rfl)) po_none (po_some (pe_op op_add pe_int (pe_call GT hr1 (by rfl) mT kT bT .nil pass0 (pa_cons (pv 0) (pa_cons pe_int pa_nil))))))) (pss_cons (ps_set (i := 6) nd rfl (.inr rfl) (pe_disp (pps_cons pe_str (pv 0) (pps_cons pe_str (pv 3) (pps_cons pe_str (pv 5) pps_nil))) rfl rfl (by simp) (by decide))) (pss_cons (ps_set (i := 7) nd rfl (.inr rfl) (pe_op op_add pe_int (pe_call GT hr1 (by rfl) mT kT bT .nil pass0 (pa_cons (pv 0) (pa_cons (pv 1) pa_nil))))) (pss_cons (ps_set (i := 9) nd rfl (.inr rfl) (pe_lc (own := [("k", 8)]) (g := gName 8) (tt := tYes) rfl nd (pi_range1 (by rfl) mr (pa_cons (pv 7) pa_nil)) (blkOk_by (N := NF) (sc := defScope sFun) (by decide +kernel)) (fun _ _ _ _ _ => pg_name (i := 8) nd rfl (.inl rfl)) (fun _ _ _ _ _ => pts_nil) (fun _ _ _ _ _ => (pe_op op_add pe_int (pe_op op_mul pe_int (pv 8)))))) (C8.pss_cut (ps_if (pt_cmpR op_eq (pe_call GT hr1 (by rfl) mT kT bT .nil pass0 (pa_cons (pv 0) (pa_cons pe_int pa_nil))) pe_int (nomark _)) (pss_one (ps_set (i := 9) nd rfl (.inr rfl) (pe_lc (own := [("k", 8)]) (g := gName 8) (tt := tYes) rfl nd (pi_range1 (by rfl) mr (pa_cons (pv 7) pa_nil)) (blkOk_by (N := NF) (sc := defScope sFun) (by decide +kernel)) (fun _ _ _ _ _ => pg_name (i := 8) nd rfl (.inl rfl)) (fun _ _ _ _ _ => pts_nil) (fun _ _ _ _ _ => (pe_ix (r := rIxL K) ix_list (pv 9) (pe_op op_sub (pe_op op_sub (pv 7) pe_int) (pv 8)) (fun _ _ => rfl)))))) pss_nil) (pss_cons (ps_set (i := 10) nd rfl (.inl rfl) (pe_lst pa_nil)) (pss_cons (ps_for PassesOwn.never rfl (pi_range1 (by rfl) mr (pa_cons (pv 7) pa_nil)) (pg_name (i := 8) nd rfl (.inl rfl)) (pss_cons (ps_setLc (i := 11) (own := [("j", 16)]) (g := gName 16) (tt := tYes) rfl nd rfl rfl (sw_true rfl rfl rfl (by decide +kernel)) (pi_range1 (by rfl) mr (pa_cons (pe_call GT hr1 (by rfl) mT kT bT .nil pass0 (pa_cons (pv 0) (pa_cons (pe_op op_add (pv 2) pe_int) pa_nil))) pa_nil)) (blkOk_by (N := NF) (sc := defScope sFun) (by decide +kernel)) (fun _ _ _ _ _ => pg_name (i := 16) nd rfl (.inl rfl)) (fun _ _ _ _ _ => pts_nil) (fun _ _ _ _ _ => (pe_call GS hr (by rfl) mS kS bS .nil pass0 (pa_cons (pv 6) pa_nil)))) (pss_cons (ps_set (i := 12) nd rfl (.inl rfl) (pe_call GT hr1 (by rfl) mT kT bT .nil pass0 (pa_cons (pv 0) (pa_cons pe_int pa_nil)))) (pss_cons (ps_set (i := 13) nd rfl (.inl rfl) (pe_slice sl_list (pv 9) (po_some (pe_op op_add (pv 8) pe_int)) po_none)) (C8.pss_cut (ps_if (PW.pt (pw_or (pt_cmpR (op_eqD hr.units) (pv 13) (pe_lst pa_nil) (nomark _)) (pw_or1 (pt_cmpR op_eq (pv 12) pe_int (nomark _))))) (pss_one (ps_set (i := 14) nd rfl (.inl rfl) (pe_tup (pa_cons pe_str (pa_cons (pe_call G1 hrF (by rfl) mE kE bE .nil pass0 (pa_cons (pv 6) (pa_cons pe_int pa_nil))) pa_nil))))) (pss_one (ps_if (pt_cmpR op_eq (pv 12) pe_int (nomark _)) (pss_one (ps_set (i := 14) nd rfl (.inl rfl) (pe_tup (pa_cons pe_str (pa_cons (pe_ix (r := rIxL K) ix_list (pv 13) (pe_call GT hr1 (by rfl) mT kT bT .nil pass0 (pa_cons (pv 0) (pa_cons (pe_callB call_len_seq (by rfl) ml PySem.boot_len (pa_cons (pv 13) pa_nil)) pa_nil))) (fun _ _ => rfl)) pa_nil))))) (C8.pss_cut (ps_set (i := 15) nd rfl (.inl rfl) (pe_ifExp (pt_cmpR op_eq (pe_call GT hr1 (by rfl) mT kT bT .nil pass0 (pa_cons (pv 0) (pa_cons pe_int pa_nil))) pe_int (nomark _)) (pe_ix (r := rIxL K) ix_list (pe_slice sl_list (pv 9) (po_some pe_int) po_none) (pe_call GT hr1 (by rfl) mT kT bT .nil pass0 (pa_cons (pv 0) (pa_cons (pe_op op_sub (pv 7) pe_int) pa_nil))) (fun _ _ => rfl)) (pe_ix (r := rIxL K) ix_list (pv 13) (pe_call GT hr1 (by rfl) mT kT bT .nil pass0 (pa_cons (pv 0) (pa_cons (pe_callB call_len_seq (by rfl) ml PySem.boot_len (pa_cons (pv 13) pa_nil)) pa_nil))) (fun _ _ => rfl)))) (pss_one (ps_set (i := 14) nd rfl (.inl rfl) (pe_tup (pa_cons pe_str (pa_cons (pe_call G2 hrE (by rfl) mE kE bE .nil pass0 (pa_cons (pv 6) (pa_cons pe_int pa_nil))) (pa_cons (pv 15) (pa_cons (pe_ix (r := rIxL K) ix_list (pv 13) (pe_call GT hr1 (by rfl) mT kT bT .nil pass0 (pa_cons (pv 0) (pa_cons (pe_callB call_len_seq (by rfl) ml PySem.boot_len (pa_cons (pv 13) pa_nil)) pa_nil))) (fun _ _ => rfl)) pa_nil))))))))))) (pss_one (ps_expr (pe_bm PySem.F.plainAttrs_list PySem.F.slot_list_append PySem.F.type_list_append mt_append (pv 10) (pa_cons (pe_tup (pa_cons (pe_ix (r := rIxL K) ix_list (pv 9) (pv 8) (fun _ _ => rfl)) (pa_cons (pe_callTy call_tuple_of (by rfl) mt (by decide +kernel) (pa_cons (pv 11) pa_nil)) (pa_cons (pv 14) pa_nil)))) pa_nil))))))))) (pss_one (ps_ret (pe_tup (pa_cons (pv 3) (pa_cons (pv 4) (pa_cons (pe_callTy call_tuple_of (by rfl) mt (by decide +kernel) (pa_cons (pv 10) pa_nil)) pa_nil))))))))))))))), ?_⟩
    -- width
    refine ⟨_, rfl, d, c, ns, 16, rfl, D0, by decide, by decide, fun t H1 ht D1 kp1 => ⟨_, _, rfl, rfl, (by show 7 ≤ sizeLine; decide), fun p1 hp1 => ?_⟩⟩
    refine ⟨_, rfl, d, c, ns, 7, rfl, (((Go.start D0).step D1 kp1).new hp1).drd, by decide, by decide, fun k H2 hk D2 kp2 => ?_⟩
    have g2 : Go d c ns H H2 := (((Go.start D0).step D1 kp1).new hp1).step D2 kp2
    obtain ⟨W, hv, w1, w16⟩ := draw_wf (t := t) (by omega) (k := k) (by omega)
    refine ⟨p1, _, _, _, rfl, rfl, .of (kp2 p1 _ upd_same (D1.ne hp1)), atI_nat hv, ?_⟩
    -- params
    refine ⟨_, rfl, d, c, ns, 7, rfl, g2.drd, by decide, by decide, fun t3 H3 ht3 D3 kp3 => ⟨(by show 5 ≤ sizeLine; decide), fun p3 hp3 => ?_⟩⟩
    refine ⟨_, rfl, d, c, ns, 5, rfl, ((g2.step D3 kp3).new hp3).drd, by decide, by decide, fun k4 H4 hk4 D4 kp4 => ?_⟩
    have g4 : Go d c ns H H4 := ((g2.step D3 kp3).new hp3).step D4 kp4
    obtain ⟨pr, hv4, pr6⟩ := draw_pr (t := t3) (by omega) (k := k4) (by omega)
    refine ⟨p3, _, _, _, rfl, rfl, .of (kp4 p3 _ upd_same (D3.ne hp3)), atI_nat hv4, ?_⟩
    -- variables
    refine ⟨(by show 6 ≤ sizeLine; decide), fun a0 ha0 => ⟨(by show 7 ≤ sizeLine; decide), fun a1 ha1 => ⟨(by show 2 ≤ sizeLine; decide), fun a2 ha2 => ?_⟩⟩⟩
    refine ⟨_, rfl, d, c, ns, 2, rfl, (((g4.new ha0).new ha1).new ha2).drd, by decide, by decide, fun k5 H5 hk5 D5 kp5 => ?_⟩
    have g5 : Go d c ns H H5 := (((g4.new ha0).new ha1).new ha2).step D5 kp5
    have n01 : a0 ≠ a1 := ne_of_none upd_same ha1
    have n12 : a1 ≠ a2 := ne_of_none upd_same ha2
    have n02 : a0 ≠ a2 := ne_of_none (by rw [upd_ne n01]; exact upd_same) ha2
    have d0 : a0 ≠ d := g4.drd.ne ha0
    have d1 : a1 ≠ d := (g4.new ha0).drd.ne ha1
    have d2 : a2 ≠ d := ((g4.new ha0).new ha1).drd.ne ha2
    obtain ⟨pp, L, hv5, hL, ppd, L2, L7, Llt⟩ : ∃ (pp : Addr) (L : List Nat), ([.ref a0, .ref a1] : List V)[k5]? = some (.ref pp) ∧ H5 pp = some (.lst (iv L)) ∧ pp ≠ d ∧ 2 ≤ L.length ∧ L.length ≤ 7 ∧ ∀ x ∈ L, x ∈ uni := by
      have h2 : k5 < 2 := by omega
      match k5, h2 with
      | 0, _ => exact ⟨a0, vars0, rfl, kp5 a0 _ (by rw [upd_ne n02, upd_ne n01]; exact upd_same) d0, d0, by decide, by decide, by decide⟩
      | 1, _ => exact ⟨a1, vars1, rfl, kp5 a1 _ (by rw [upd_ne n12]; exact upd_same) d1, d1, by decide, by decide, by decide⟩
      | k + 2, h => omega
    refine ⟨a2, _, _, _, rfl, rfl, .of (kp5 a2 _ upd_same d2), atI_nat hv5, ?_⟩
    refine ⟨_, rfl, d, c, ns, 6, rfl, g5.drd, by decide, by decide, fun t6 H6 ht6 D6 kp6 => ⟨_, _, rfl, rfl, ((2 + t6 : Nat) : Int), congrArg V.int (by omega), pp, _, rfl, .of (kp6 pp _ hL ppd), fun vl hvl => ?_⟩⟩
    have g6 : Go d c ns H H6 := g5.step D6 kp6
    have ec : cutV (iv L) none (some ((2 + t6 : Nat) : Int)) = iv (L.take (2 + t6)) := by rw [cut_to, iv_take]
    -- p
    intro pa hpa
    refine ⟨_, rfl, _, rfl, _, rfl, upd_same, pKv d W vl, rfl, (by show 3 ≤ 15; decide), ?_⟩
    have g8 := (g6.new hvl).new2 (u := .dK (mergeK [] (pKv d W vl))) (o := .dK []) hpa
    have nvp : vl ≠ pa := ne_of_none upd_same hpa
    have M8 : Mk (upd (upd (upd H6 vl (.lst (cutV (iv L) none (some ((2 + t6 : Nat) : Int))))) pa (.dK [])) pa (.dK (mergeK [] (pKv d W vl)))) pa d c vl ns W (L.take (2 + t6)) :=
      ⟨g8.drd, upd_same, by rw [upd_ne nvp, upd_ne nvp, upd_same, ec], by rw [List.length_take]; omega, by rw [List.length_take]; omega, fun x hx => Llt x (List.mem_of_mem_take hx), w1, w16⟩
    -- count
    refine ⟨_, rfl, _, rfl, d, c, ns, nb, rfl, g8.drd, by omega, by omega, fun t9 H9 ht9 D9 kp9 => ⟨_, _, rfl, rfl, ?_⟩⟩
    have g9 : Go d c ns H H9 := g8.step D9 kp9
    have M9 : Mk H9 pa d c vl ns W (L.take (2 + t6)) := M8.next D9 kp9
    have en : ((1 : Int) + (t9 : Int)).toNat = 1 + t9 := by omega
    -- labels
    refine ⟨_, rfl, _, rfl, by omega, by omega, fun la hla => lc_range (lo := 0) (n := ((1 : Int) + (t9 : Int)).toNat) (fun i H' => H' la = some (.lst (iv ((List.range i).map fun k => 3 + 5 * k))) ∧ Go d c ns H9 H') ⟨upd_same, (Go.start D9).new hla⟩ ?_ ?_⟩
    · rintro i H' hi ⟨hl, gg⟩
      refine ⟨rfl, ?_⟩
      refine tYes_go ?_
      refine ⟨_, rfl, _, _, rfl, rfl, .inl ⟨by decide, by decide⟩, _, _, rfl, rfl, _, hl, ?_, ?_, Go.own D9 gg hla⟩
      · rw [List.length_map, List.length_map, List.length_range]
        exact small1000 (by omega)
      · rw [upd_same, labs_succ]
        have e5 : ((3 + 5 * i : Nat) : Int) = 3 + 5 * (0 + (i : Int)) := by omega
        rw [e5]
    rintro H10 ⟨hl10, g10⟩
    rw [en] at hl10
    have lad : la ≠ d := D9.ne hla
    -- labels turned round
    refine ⟨fun σ' H' => ∃ (la : Addr) (ls : List Nat), σ' = [some (.ref d), some (.int (nb : Int)), some (.int (mo : Int)), some (.int (W : Int)), some (.int (pr : Int)), some (.ref vl), some (.ref pa), some (.int (1 + (t9 : Int))), none, some (.ref la), none, none, none, none, none, none, none] ∧
      Go d c ns H9 H' ∧ H' la = some (.lst (iv ls)) ∧ la ≠ d ∧ ls.length = 1 + t9 ∧ ls.Nodup ∧ ∀ x ∈ ls, x < 1000, ?_, ?_⟩
    · refine ⟨_, rfl, d, c, ns, 3, rfl, g10.drd, by decide, by decide, fun z H11 hz D11 kp11 => ⟨rfl, _, rfl, ite2 (fun e => ?_) (fun e => ?_)⟩⟩
      · have g11 : Go d c ns H9 H11 := g10.step D11 kp11
        have hl11 : H11 la = some (.lst (iv ((List.range (1 + t9)).map fun k => 3 + 5 * k))) := kp11 la _ hl10 lad
        refine ⟨_, rfl, _, rfl, by omega, by omega, fun lb hlb => lc_range (lo := 0) (n := ((1 : Int) + (t9 : Int)).toNat) (fun i H' => H' lb = some (.lst (iv ((List.range i).map fun k => 3 + 5 * (t9 - k)))) ∧ Go d c ns H11 H') ⟨upd_same, (Go.start D11).new hlb⟩ ?_ ?_⟩
        · rintro i H' hi ⟨hl, gg⟩
          refine ⟨rfl, ?_⟩
          refine tYes_go ?_
          have hj : t9 - i < ((List.range (1 + t9)).map fun k => 3 + 5 * k).length := by
            rw [List.length_map, List.length_range]
            omega
          refine ⟨_, rfl, _, rfl, _, _, rfl, rfl, _, rfl, _, _, rfl, rfl, la, _, _, _, rfl, rfl, .of (gg.keep la _ hl11 lad), at_of (j := t9 - i) (by omega) (iv_get hj), _, hl, ?_, ?_, Go.own D11 gg hlb⟩
          · rw [List.length_map, List.length_map, List.length_range]
            exact small1000 (by omega)
          · rw [upd_same, labs_succ, List.getElem_map, List.getElem_range]
        · rintro H' ⟨hl, gg⟩
          rw [en] at hl
          refine ⟨lb, _, rfl, g11.trans gg, hl, D11.ne hlb, by rw [List.length_map, List.length_range], nd_inj (fun a b h1 h2 => by omega), fun x hx => ?_⟩
          obtain ⟨k, hk, rfl⟩ := List.mem_map.mp hx
          omega
      · refine ⟨la, _, rfl, g10.step D11 kp11, kp11 la _ hl10 lad, lad, by rw [List.length_map, List.length_range], nd_inj (fun a b h1 h2 => by omega), fun x hx => ?_⟩
        obtain ⟨k, hk, rfl⟩ := List.mem_map.mp hx
        have := List.mem_range.mp hk
        omega
    rintro σ' H12 ⟨la, ls, rfl, g12, hl12, lad, ll, lnd, llt⟩
    have M12 : Mk H12 pa d c vl ns W (L.take (2 + t6)) := g12.toMk M9
    -- rows = []
    refine ⟨Nat.zero_le _, fun ra hra => ?_⟩
    have rad : ra ≠ d := g12.drd.ne hra
    refine ⟨_, rfl, _, rfl, by omega, by omega, for_range (lo := 0) (n := ((1 : Int) + (t9 : Int)).toNat) (fun i σ H' => ∃ (y8 y11 y12 y13 y14 y15 : Option V) (vs : List V) (bs : List Bl), σ = [some (.ref d), some (.int (nb : Int)), some (.int (mo : Int)), some (.int (W : Int)), some (.int (pr : Int)), some (.ref vl), some (.ref pa), some (.int (1 + (t9 : Int))), y8, some (.ref la), some (.ref ra), y11, y12, y13, y14, y15, none] ∧
        Go d c ns H12 H' ∧ H' ra = some (.lst vs) ∧ Paired (BlAt H') bs vs ∧ bs.map (·.label) = ls.take i ∧ ∀ b ∈ bs, BlOk W mo ls.tail b)
      ⟨none, none, none, none, none, none, [], [], rfl, (Go.start g12.drd).new hra, upd_same, .nil, rfl, fun b hb => by cases hb⟩ ?_ ?_⟩
    · rintro i σ H13 hi ⟨y8, y11, y12, y13, y14, y15, vs, bs, rfl, g13, hr13, pr13, lab, okb⟩
      rw [en] at hi
      have hil : i < ls.length := by omega
      have M13 : Mk H13 pa d c vl ns W (L.take (2 + t6)) := g13.toMk M12
      have lvs : vs.length = i := by
        have q1 := pr13.length
        have q2 : (bs.map (·.label)).length = (ls.take i).length := by rw [lab]
        rw [List.length_map, List.length_take] at q2
        omega
      -- body
      refine ⟨_, rfl, _, rfl, _, _, rfl, rfl, d, c, ns, _, rfl, g13.drd, by omega, by omega, fun t14 H14 ht14 D14 kp14 => ⟨_, rfl, by omega, by omega, fun Db hDb => lc_range (lo := 0) (n := ((t14 : Nat) : Int).toNat) (fun j H' => ∃ (vs2 : List V) (ss : List Sm), H' Db = some (.lst vs2) ∧ Paired (SmAt H') ss vs2 ∧ ss.length = j ∧ (∀ s ∈ ss, SmOk W s) ∧ Go d c ns H14 H')
        ⟨[], [], upd_same, .nil, rfl, (fun b hb => by cases hb), (Go.start D14).new hDb⟩ ?_ ?_⟩⟩
      · rintro j H' hj ⟨vs2, ss, hD', ps, lss, oks, gg⟩
        rw [Int.toNat_natCast] at hj
        refine ⟨rfl, ?_⟩
        refine tYes_go ?_
        have dbd : Db ≠ d := D14.ne hDb
        refine ⟨_, rfl, pa, d, c, vl, ns, W, L.take (2 + t6), rfl, gg.toMk (M13.next D14 kp14), fun s v H15 ok at_ M15 kp15 => ?_⟩
        have hD15 : H15 Db = some (.lst vs2) := kp15 Db _ hD' dbd
        refine ⟨vs2, hD15, ?_, vs2 ++ [v], ss ++ [s], upd_same, prd_snoc (Sms.mono ((Tups.keep gg.drd kp15).trans (Tups.lst hD15)) ps) (at_.mono (Tups.lst hD15)), by rw [List.length_append, lss]; rfl, ?_, Go.own D14 (gg.step M15.drd kp15) hDb⟩
        · have := ps.length
          exact small1000 (by omega)
        · intro s' hs'
          rcases List.mem_append.mp hs' with h | h
          · exact oks s' h
          · rw [List.mem_singleton.mp h]
            exact ok
      rintro H16 ⟨vs2, ss, hD16, ps16, lss, oks, g16⟩
      rw [Int.toNat_natCast] at lss
      have dbd : Db ≠ d := D14.ne hDb
      have gA : Go d c ns H13 H16 := ((Go.start g13.drd).step D14 kp14).trans g16
      -- what
      refine ⟨_, rfl, d, c, ns, 4, rfl, g16.drd, by decide, by decide, fun wh H17 hwh D17 kp17 => ?_⟩
      have gB : Go d c ns H13 H17 := gA.step D17 kp17
      have gC : Go d c ns H12 H17 := g13.trans gB
      have M17 : Mk H17 pa d c vl ns W (L.take (2 + t6)) := gC.toMk M12
      have hl17 : H17 la = some (.lst (iv ls)) := gC.keep la _ hl12 lad
      -- later
      refine ⟨_, rfl, _, rfl, _, _, rfl, rfl, ((i + 1 : Nat) : Int), congrArg V.int (by omega), la, _, rfl, .of hl17, fun lt hlt => ?_⟩
      have el : cutV (iv ls) (some ((i + 1 : Nat) : Int)) none = iv (ls.drop (i + 1)) := by rw [cut_from, iv_drop]
      have ltd : lt ≠ d := D17.ne hlt
      have hlt0 : (upd H17 lt (.lst (cutV (iv ls) (some ((i + 1 : Nat) : Int)) none))) lt = some (.lst (iv (ls.drop (i + 1)))) := by rw [upd_same, el]
      have g18 : Go d c ns H17 (upd H17 lt (.lst (cutV (iv ls) (some ((i + 1 : Nat) : Int)) none))) := (Go.start D17).new hlt
      have dropT : ∀ x ∈ ls.drop (i + 1), x ∈ ls.tail := fun x hx => by
        rw [← List.drop_one]
        rw [Nat.add_comm, ← List.drop_drop] at hx
        exact List.mem_of_mem_drop hx
      -- the end
      refine ⟨fun σ' H' => ∃ (y15 : Option V) (v : V) (e : En), σ' = [some (.ref d), some (.int (nb : Int)), some (.int (mo : Int)), some (.int (W : Int)), some (.int (pr : Int)), some (.ref vl), some (.ref pa), some (.int (1 + (t9 : Int))), some (.int (0 + (i : Int))), some (.ref la), some (.ref ra), some (.ref Db), some (.int (wh : Int)), some (.ref lt), some v, y15, none] ∧
          Go d c ns H17 H' ∧ EnAt H' e v ∧ EnOk W ls.tail e, ?_, ?_⟩
      · refine ⟨_, rfl, Nat.zero_le _, fun pe hpe => ?_⟩
        have nlp : lt ≠ pe := ne_of_none hlt0 hpe
        have hlt1 : ∀ o, (upd (upd H17 lt (.lst (cutV (iv ls) (some ((i + 1 : Nat) : Int)) none))) pe o) lt = some (.lst (iv (ls.drop (i + 1)))) := fun o => by rw [upd_ne nlp, hlt0]
        have g19 := g18.new (o := .lst []) hpe
        have M19 := g19.toMk M17
        refine ⟨_, .list [], .lst (.of (hlt1 _)) (dp_iv _), .lst (.of upd_same) .nil, sh_iv _, (by decide +kernel), _, rfl, ite2 (fun e1 => iteT ?_) (fun e1 => ?_)⟩
        · refine ⟨_, rfl, pa, d, c, vl, ns, W, L.take (2 + t6), rfl, M19, fun e v H20 ok dp at_ M20 kp20 => ⟨(by show 2 ≤ sizeLine; decide), fun p hp => ?_⟩⟩
          exact ⟨y15, .ref p, .ret e, rfl, (g19.step M20.drd kp20).new hp, ⟨p, v, rfl, upd_same, at_.mono (Tups.of (same_new hp))⟩, ok, Nat.le_succ_of_le dp⟩
        refine ⟨_, rfl, rfl, _, rfl, ite2 (fun e2 => ?_) (fun e2 => ?_)⟩
        · refine ⟨_, rfl, pa, d, c, vl, ns, W, L.take (2 + t6), rfl, M19, fun e v H20 ok dp at_ M20 kp20 => ⟨(by show 2 ≤ sizeLine; decide), fun p hp => ?_⟩⟩
          exact ⟨y15, .ref p, .ret e, rfl, (g19.step M20.drd kp20).new hp, ⟨p, v, rfl, upd_same, at_.mono (Tups.of (same_new hp))⟩, ok, Nat.le_succ_of_le dp⟩
        have hne : 0 < (ls.drop (i + 1)).length := by
          cases hq : ls.drop (i + 1) with
          | nil =>
            rw [hq] at e1
            exact absurd rfl e1
          | cons x r => exact Nat.succ_pos _
        have hle : (ls.drop (i + 1)).length ≤ 40 := by
          rw [List.length_drop]
          omega
        have hlen := iv_len (ls.drop (i + 1))
        refine ⟨_, rfl, rfl, _, rfl, ite2 (fun e3 => ?_) (fun e3 => ?_)⟩
        · refine ⟨_, rfl, _, rfl, _, rfl, lt, _, rfl, .inl (.of (hlt1 _)), d, c, ns, _, rfl, g19.drd, by omega, by omega, fun z H21 hz D21 kp21 => ?_⟩
          have hzl : z < (ls.drop (i + 1)).length := by omega
          refine ⟨lt, _, _, _, rfl, rfl, .of (kp21 lt _ (hlt1 _) ltd), atI_nat (iv_get hzl), (by show 2 ≤ sizeLine; decide), fun p hp => ?_⟩
          exact ⟨y15, .ref p, .go (ls.drop (i + 1))[z], rfl, (g19.step D21 kp21).new hp, ⟨p, rfl, upd_same⟩, dropT _ (List.getElem_mem hzl)⟩
        · -- other
          refine ⟨fun σ' H' => ∃ o : Nat, σ' = [some (.ref d), some (.int (nb : Int)), some (.int (mo : Int)), some (.int (W : Int)), some (.int (pr : Int)), some (.ref vl), some (.ref pa), some (.int (1 + (t9 : Int))), some (.int (0 + (i : Int))), some (.ref la), some (.ref ra), some (.ref Db), some (.int (wh : Int)), some (.ref lt), y14, some (.int (o : Int)), none] ∧
              Go d c ns H17 H' ∧ H' lt = some (.lst (iv (ls.drop (i + 1)))) ∧ o ∈ ls.tail, ?_, ?_⟩
          · refine ⟨_, rfl, d, c, ns, 3, rfl, g19.drd, by decide, by decide, fun z H21 hz D21 kp21 => ⟨rfl, _, rfl, ite2 (fun e4 => ?_) (fun e4 => ?_)⟩⟩
            · have hl21 : H21 la = some (.lst (iv ls)) := (g19.step D21 kp21).keep la _ hl17 lad
              refine ⟨_, rfl, 1, rfl, la, _, rfl, .of hl21, fun l1 hl1 => ?_⟩
              have e1c : cutV (iv ls) (some ((1 : Nat) : Int)) none = iv (ls.drop 1) := by rw [cut_from, iv_drop]
              have hl1' : (upd H21 l1 (.lst (cutV (iv ls) (some 1) none))) l1 = some (.lst (iv (ls.drop 1))) := upd_same.trans (congrArg (fun z => some (HO.lst z)) e1c)
              have nl1 : lt ≠ l1 := ne_of_none (kp21 lt _ (hlt1 _) ltd) hl1
              have l1d : l1 ≠ d := D21.ne hl1
              have hd1 : (ls.drop 1).length = t9 := by
                rw [List.length_drop]
                omega
              have hd2 : (ls.drop (i + 1)).length = t9 - i := by
                rw [List.length_drop]
                omega
              refine ⟨_, rfl, _, rfl, _, _, rfl, rfl, d, c, ns, _, rfl, D21.same (same_new hl1), by omega, by omega, fun z2 H22 hz2 D22 kp22 => ?_⟩
              have hzl : z2 < (ls.drop 1).length := by omega
              refine ⟨l1, _, _, _, rfl, rfl, .of (kp22 l1 _ hl1' l1d), atI_nat (iv_get hzl), ?_⟩
              refine ⟨(ls.drop 1)[z2], rfl, ((g19.step D21 kp21).new hl1).step D22 kp22, kp22 lt _ (by rw [upd_ne nl1]; exact kp21 lt _ (hlt1 _) ltd) ltd, ?_⟩
              have hm : ∀ x, x ∈ ls.drop 1 → x ∈ ls.tail := fun x h => by
                rw [List.drop_one] at h
                exact h
              exact hm _ (List.getElem_mem hzl)
            · have hlt2 := kp21 lt _ (hlt1 _) ltd
              refine ⟨_, rfl, _, rfl, _, rfl, lt, _, rfl, .inl (.of hlt2), d, c, ns, _, rfl, D21, by omega, by omega, fun z2 H22 hz2 D22 kp22 => ?_⟩
              have hzl : z2 < (ls.drop (i + 1)).length := by omega
              refine ⟨lt, _, _, _, rfl, rfl, .of (kp22 lt _ hlt2 ltd), atI_nat (iv_get hzl), ?_⟩
              exact ⟨(ls.drop (i + 1))[z2], rfl, (g19.step D21 kp21).step D22 kp22, kp22 lt _ hlt2 ltd, dropT _ (List.getElem_mem hzl)⟩
          · rintro σ' H23 ⟨o, rfl, g23, hlt3, om⟩
            refine ⟨_, rfl, pa, d, c, vl, ns, W, L.take (2 + t6), rfl, g23.toMk M17, fun e v H24 ok dp at_ M24 kp24 => ?_⟩
            have hlt4 := kp24 lt _ hlt3 ltd
            refine ⟨_, rfl, _, rfl, _, rfl, _, rfl, lt, _, rfl, .inl (.of hlt4), d, c, ns, _, rfl, M24.drd, by omega, by omega, fun z2 H25 hz2 D25 kp25 => ?_⟩
            have hzl : z2 < (ls.drop (i + 1)).length := by omega
            refine ⟨lt, _, _, _, rfl, rfl, .of (kp25 lt _ hlt4 ltd), atI_nat (iv_get hzl), (by show 4 ≤ sizeLine; decide), fun p hp => ?_⟩
            exact ⟨_, .ref p, .iff e o (ls.drop (i + 1))[z2], rfl, ((g23.step M24.drd kp24).step D25 kp25).new hp, ⟨p, v, rfl, upd_same, (at_.mono (Tups.keep M24.drd kp25)).mono (Tups.of (same_new hp))⟩, ⟨ok, dp⟩, om, dropT _ (List.getElem_mem hzl)⟩
      · rintro σ' H26 ⟨y15', v, e, rfl, g26, at_, oken⟩
        have gD : Go d c ns H12 H26 := gC.trans g26
        have gE : Go d c ns H13 H26 := gB.trans g26
        have hl26 : H26 la = some (.lst (iv ls)) := gD.keep la _ hl12 lad
        have hD26 : H26 Db = some (.lst vs2) := g26.keep Db _ (kp17 Db _ hD16 dbd) dbd
        have hr26 : H26 ra = some (.lst vs) := gE.keep ra _ hr13 rad
        refine ⟨_, rfl, .inl ⟨rfl, _, .of hr26⟩, _, rfl, _, rfl, la, _, _, _, rfl, rfl, .of hl26, at_of (j := i) (by omega) (iv_get hil), _, rfl, Db, _, rfl, .inl ⟨.of hD26, fun tb htb => ?_⟩⟩
        refine ⟨_, rfl, (by show 3 ≤ sizeLine; decide), fun tp htp => ?_⟩
        have ntb : tb ≠ tp := ne_of_none upd_same htp
        have nr1 : ra ≠ tb := ne_of_none hr26 htb
        have nr2 : ra ≠ tp := ne_of_none (by rw [upd_ne nr1]; exact hr26) htp
        have hr28 : ∀ o o', (upd (upd H26 tb o) tp o') ra = some (.lst vs) := fun o o' => by rw [upd_ne nr2, upd_ne nr1]; exact hr26
        refine ⟨ra, _, _, rfl, rfl, hr28 _ _, small1000 (by omega), ?_⟩
        have tu1 : ∀ o o' xs, Tups H26 (upd (upd (upd H26 tb o) tp o') ra (.lst xs)) := fun o o' xs => ((Tups.of (same_new htb)).trans (fun b zs q => by
          by_cases hb : b = tp
          · subst hb
            exfalso
            have := htp
            by_cases hc : b = tb
            · exact ntb hc.symm
            · rw [upd_ne hc] at q
              rw [upd_ne hc] at this
              rw [q] at this
              cases this
          · rw [upd_ne hb]
            exact q)).trans (Tups.lst (hr28 o o'))
        refine ⟨_, _, _, _, _, _, vs ++ [.ref tp], bs ++ [⟨ls[i], ss, e⟩], rfl, Go.own g12.drd ((gD.new htb).new htp) hra, upd_same, ?_, ?_, ?_⟩
        · refine prd_snoc (Bls.mono ((Go.tups g13.drd gE).trans (tu1 _ _ _)) pr13) ⟨tp, tb, v, vs2, rfl, ?_, ?_, ?_, at_.mono (tu1 _ _ _)⟩
          · rw [upd_ne nr2.symm]
            exact upd_same
          · rw [upd_ne nr1.symm, upd_ne ntb]
            exact upd_same
          · exact Sms.mono ((Tups.keep g16.drd kp17).trans ((Go.tups D17 g26).trans (tu1 _ _ _))) ps16
        · rw [List.map_append, lab, List.take_add_one, List.getElem?_eq_getElem hil]
          rfl
        · intro b hb
          rcases List.mem_append.mp hb with h | h
          · exact okb b h
          · rw [List.mem_singleton.mp h]
            exact ⟨oks, by show ss.length ≤ mo; omega, oken⟩
    · rintro σ H27 ⟨y8, y11, y12, y13, y14, y15, vs, bs, rfl, g27, hr27, pr27, lab, okb⟩
      rw [en] at lab
      have elb : bs.map (·.label) = ls := by
        rw [lab]
        exact List.take_of_length_le (by omega)
      have lbs : bs.length = 1 + t9 := by
        have := congrArg List.length elb
        rw [List.length_map] at this
        omega
      refine ⟨_, rfl, _, rfl, _, rfl, ra, _, rfl, .inl ⟨.of hr27, fun tb htb => ⟨(by show 3 ≤ sizeLine; decide), fun tp htp => ?_⟩⟩⟩
      have ntb : tb ≠ tp := ne_of_none upd_same htp
      have gF := (((g9.trans g12).trans g27).new htb).new (o := .tup [.int (W : Int), .int (pr : Int), .ref tb]) htp
      refine q ⟨W, pr, bs⟩ (.ref tp) _ ⟨w1, w16, pr6, by show 1 ≤ bs.length; omega, by show bs.length ≤ nb; omega, by show (bs.map (·.label)).Nodup; rw [elb]; exact lnd, ?_, ?_⟩ ⟨tp, tb, vs, rfl, upd_same, by rw [upd_ne ntb]; exact upd_same, ?_⟩ gF.drd gF.keep
      · intro b hb
        have : b.label ∈ bs.map (·.label) := List.mem_map_of_mem hb
        rw [elb] at this
        exact llt _ this
      · intro b hb
        show BlOk W mo (bs.map (·.label)).tail b
        rw [elb]
        exact okb b hb
      · exact Bls.mono ((Tups.of (same_new htb)).trans (Tups.of (same_new htp))) pr27
end
end K0

set_option Elab.async false
set_option linter.all false
set_option maxRecDepth 100000
set_option maxHeartbeats 2000000
/-! any, all of a generator expression over anything that PI serves, the element any expression. -/
namespace GxA
open PySem PySem.Spec PyProof.Rows L2 GenW GxR
/-- the context of a generator expression's frame -/
abbrev gcx (X : Cx) (A : Around) (s : Shared) (H : Hp) (ge : Env) (fp : List Addr) : Cx :=
  { X with A := A.deeper ge, s_0 := s, H_0 := H, env := ge, outer := X.stack, stack := ge :: X.stack, ex := fp, fn := fun _ => false, pn := [], xe := fun _ _ => False }
theorem over_gen {A : Around} {elt : Expr} {gs : List Comprehension} {scope : Scope} {pos : Pos} {x y : Value} {ge : Env} :
    A.over (.compLoop (.GeneratorExp elt gs scope pos) 0 x y ge) [] = A.deeper ge := by rfl
theorem over_gen0 {A : Around} {elt : Expr} {gs : List Comprehension} {scope : Scope} {pos : Pos} {x y : Value} {ge : Env} :
    A.over (.compStart (.GeneratorExp elt gs scope pos) 0 x y ge) [] = A.deeper ge := by rfl
section
variable {X : Cx} {pins : List (Addr × Obj)} {σ : L2.St} {H : Hp} {s : Shared}
/-- the frame of a generator expression that has been made -/
theorem gen_start {scope : Scope} {own : List (Str × Nat)} {fp : List Addr} {A : Around} {code itv : Value} {s' : Shared} (I : Inv X pins σ H s) (ok : BlkOk X.N X.env.scope scope own) (hN : X.N.Nodup)
    (noc : ∀ y ∈ scope.names, y.2 ≠ .cell) (dot : (".0" : Str) ∉ X.N) (hfp : ∀ b ∈ fp, FpOk X pins H b ∧ b < s.heap.objs.size) (hA : A.handled = none) (hAf : A.frames = some X.stack)
    (kp : ∀ b o, s.heap.get? b = some o → s'.heap.get? b = some o) (hn : s'.heap.Ns s.heap.objs.size (fun y => if y = ".0" then some itv else none)) (hos : s'.os = s.os) (hb : AllBare s'.gens) :
    Inv (gcx X A s H (genEnv scope (cloFrom X.env.cells scope.names []) s.heap.objs.size code builtinsNs X.env) fp) [] (wipe σ (own.map (·.2))) H s' := by
  have cm : ∀ {y c}, (y, c) ∈ cloFrom X.env.cells scope.names [] → X.env.cells.lookup y = some c ∧ c < s.heap.objs.size := fun {y c} hm => by
    rcases cloFrom_mem hm with z | ⟨h1, e⟩
    · cases z
    · have hx : ∃ c', X.env.cells.lookup y = some c' := (ok.free _ h1 rfl).elim (fun k => I.ok.has _ (.inl k)) (fun k => I.ok.has _ (.inr k))
      obtain ⟨c', hc⟩ := hx
      subst e
      rw [hc]
      obtain ⟨u, z⟩ := I.cell _ _ hc
      exact ⟨rfl, z.lt⟩
  have look : ∀ {y}, scope.names.lookup y = some .free → ∃ c, (cloFrom X.env.cells scope.names []).lookup y = some c ∧ X.env.cells.lookup y = some c := fun {y} hl => by
    have hy : (y, NameKind.free) ∈ scope.names := PySem.mem_of_lookup hl
    obtain ⟨c, e⟩ := L2.mem_lookup (cloFrom_has (cells := X.env.cells) (acc := []) hy)
    exact ⟨c, e, (cm (PySem.mem_of_lookup e)).1⟩
  have clk : ∀ {y c}, (cloFrom X.env.cells scope.names []).lookup y = some c → X.env.cells.lookup y = some c ∧ c < s.heap.objs.size := fun {y c} e => cm (PySem.mem_of_lookup e)
  generalize hge : genEnv scope (cloFrom X.env.cells scope.names []) s.heap.objs.size code builtinsNs X.env = ge
  have eL : ge.locals = s.heap.objs.size := by rw [← hge]; rfl
  have eC : ge.cells = cloFrom X.env.cells scope.names [] := by rw [← hge]; rfl
  have eS : ge.scope = scope := by rw [← hge]; rfl
  have okG : (gcx X A s H ge fp).Ok := by
    constructor
    · exact I.ok.mod
    · show ge.scope.kind = _
      rw [eS]; exact ok.kind
    · show ge.globals = _
      rw [← hge]; exact I.ok.glob
    · show ge.builtins = _
      rw [← hge]; rfl
    · show s.heap.objs.size ≤ ge.locals
      rw [eL]; exact Nat.le_refl _
    · intro y z c e1 e2
      have e1 : ge.cells.lookup y = some c := e1
      have e2 : ge.cells.lookup z = some c := e2
      rw [eC] at e1 e2
      exact I.ok.inj y z c (clk e1).1 (clk e2).1
    · intro y hy
      show ∃ c, ge.cells.lookup y = some c
      rw [eC]
      have hy : ge.scope.names.lookup y = some .cell ∨ ge.scope.names.lookup y = some .free := hy
      rw [eS] at hy
      rcases hy with hy | hy
      · exact absurd rfl (noc _ (PySem.mem_of_lookup hy))
      · obtain ⟨c, e, _⟩ := look hy
        exact ⟨c, e⟩
    · intro y c z
      exact absurd (show false = true from z) (by decide)
    · intro _
      exact hA
    · show (A.deeper ge).frames = some (ge :: X.stack)
      show A.frames.map (ge :: ·) = _
      rw [hAf]
      rfl
    · exact .inr ⟨rfl, by show ge.frame = some ge.locals; rw [← hge]; rfl⟩
    · intro b hb
      refine ⟨?_, fun y c e z => ?_⟩
      · show b ≠ ge.locals
        rw [eL]; exact Nat.ne_of_lt (hfp b hb).2
      · have e : ge.cells.lookup y = some c := e
        rw [eC] at e
        exact (hfp b hb).1.2.2.2.2.1 y c (clk e).1 z
    · exact I.bs
    · exact Nat.le_trans I.ok.bsz I.sz
    · intro b o e hb
      rcases (hfp b hb).1.2.2.2.1 with z | z
      · exact I.ok.noex b o e z
      · exact Nat.lt_irrefl _ (Nat.lt_of_lt_of_le (Heap.lt_size e) (Nat.le_trans I.ok.bsz z))
    · intro b hb z
      rcases List.mem_cons.mp (I.stkSub b z) with y | y
      · exact (hfp b hb).1.2.1 y
      · exact (hfp b hb).1.2.2.1 y
    · exact I.stack
    · exact I.stkFree
  refine ⟨okG, hos, hb, Un.kept kp, ⟨_, (by show s'.heap.Ns ge.locals _; rw [eL]; exact hn), fun i y v e1 e2 e3 => ?_⟩, fun y c e => ?_, ?_, fun y c e => ?_, fun p hp => ?_, I.hok.kept kp, by rw [wipe_length]; exact I.len⟩
  · obtain ⟨e2, hne⟩ := wipe_some e2
    have e3 : ge.scope.names.lookup y = some .local ∨ ge.scope.names.lookup y = some .cell ∨ ge.scope.names.lookup y = some .free := e3
    rw [eS] at e3
    have e1 : X.N[i]? = some y := e1
    rcases e3 with e3 | e3 | e3
    · rcases ok.own _ (PySem.mem_of_lookup e3) (.inl rfl) with z | z
      · obtain ⟨p, hp, hpy⟩ := List.mem_map.mp z
        have e4 := ok.ix p hp
        have hpy : p.1 = y := hpy
        rw [hpy] at e4
        exact absurd (List.mem_map.mpr ⟨p, hp, nodup_ix hN e4 e1⟩) hne
      · exact absurd (List.mem_of_getElem? e1) z
    · exact absurd rfl (noc _ (PySem.mem_of_lookup e3))
    · obtain ⟨m, _, hl⟩ := I.loc
      have hv : Vis X.env.scope y := (ok.free _ (PySem.mem_of_lookup e3) rfl).elim (fun k => .inr (.inl k)) (fun k => .inr (.inr k))
      obtain ⟨u, r, q⟩ := hl i y v e1 e2 hv
      obtain ⟨c, h1, h2⟩ := look e3
      refine ⟨u, r, .inr ⟨.inr (by show ge.scope.names.lookup y = _; rw [eS]; exact e3), c, by rw [eC]; exact h1, ?_⟩⟩
      rcases q with ⟨k, _⟩ | ⟨_, c', e', z⟩
      · have k : X.env.scope.names.lookup y = some .local := k
        have k2 := ok.free _ (PySem.mem_of_lookup e3) rfl
        rw [show X.env.scope.names.lookup (y, NameKind.free).1 = some .local from k] at k2
        rcases k2 with k2 | k2 <;> cases k2
      · rw [h2] at e'
        cases e'
        exact z.keeps kp
  · have e : ge.cells.lookup y = some c := e
    rw [eC] at e
    obtain ⟨u, z⟩ := I.cell y c (clk e).1
    exact ⟨u, z.keeps kp⟩
  · show H ge.locals = none
    rw [eL]; exact I.hok.fresh (Nat.le_refl _)
  · have e : ge.cells.lookup y = some c := e
    rw [eC] at e
    exact I.freeC y c (clk e).1
  · cases (show p ∈ ([] : List (Addr × Obj)) ++ [] from hp)
end
/-- what is asked of a generator expression that all (al = true) or any (al = false) walks: as of a list comprehension; the table at P may have grown -/
def tGen (P : Addr) (al : Bool) (wi : TI) (g : TG) (tt : TT) (te : TE) (vs : List Nat) : TE := fun σ H Q => wi σ H fun J H1 => TabG H1 P ∧ ∀ H2, Tabbed P H1 H2 → ∃ W : Nat → Nat → Hp → Prop, (∃ m, W 0 m H2) ∧ ∀ i m H, W i m H →
  (J.stop i H ∧ Q (.bl al) H) ∨ (J.go i H ∧ ∃ Nx : Hp → Prop, (∀ H', Nx H' → ∃ m', m' < m ∧ W (i + 1) m' H') ∧ ∀ x H', J.yld i H x H' → g x (wipe σ vs) H' fun σ2 H2 => wipe σ2 vs = wipe σ vs ∧ tt σ2 H2 fun b H3 =>
    if b = true then te σ2 H3 fun y H4 => ∃ c, y = .bl c ∧ (if c = al then Nx H4 else Q (.bl (!al)) H4) else Nx H3)
/-- the generator's end; an item that it hands out -/
def RGn (X : Cx) (pins : List (Addr × Obj)) (Q : VK) (al : Bool) : Nat → Shared → Shared → Prop := fun _ _ s => ∃ σ H, Inv X pins σ H s ∧ Q (.bl al) H
def YGn (X : Cx) (pins : List (Addr × Obj)) (Q : VK) (al : Bool) : Protocol := fun _ _ v s kap => ∃ (c : Bool) (σ : L2.St) (H : Hp), v = .bool c ∧ Inv X pins σ H s ∧ (c ≠ al → Q (.bl (!al)) H) ∧
  (c = al → ∀ s' : Shared, s'.heap = s.heap → s'.os = s.os → AllBare s'.gens → kap (.send .none) s')
theorem seg_loop {X : Cx} {A : Around} {a : Addr} {go : Obj} {J : It} {tg iter elt : Expr} {ifs : List Expr} {scope : Scope} {pos : Pos} {it : Addr} {fp : List Addr} {tn : Nat → Heap → Prop} {g : TG} {tt : TT} {te : TE} {vs : List Nat} {σ : L2.St} {Q : VK} {al : Bool} {W : Nat → Nat → Hp → Prop}
    (hA : X.A = A.deeper X.env) (hc : X.calm = true) (hx : X.xe = fun _ _ => False) (hpn : X.pn = []) (hex : X.ex = fp) (hco : X.env.scope.isCoroutine = false) (haf : a ∉ fp) (T : Turn X.prog X.w X.K tg J fp it tn) (pg : PG X tg g) (pt : PTs X ifs tt) (pe : PE X elt te)
    (turn : ∀ i m H, W i m H → (J.stop i H ∧ Q (.bl al) H) ∨ (J.go i H ∧ ∃ Nx : Hp → Prop, (∀ H', Nx H' → ∃ m', m' < m ∧ W (i + 1) m' H') ∧ ∀ x H', J.yld i H x H' → g x (wipe σ vs) H' fun σ2 H2 => wipe σ2 vs = wipe σ vs ∧ tt σ2 H2 fun b H3 =>
      if b = true then te σ2 H3 fun y H4 => ∃ c, y = .bl c ∧ (if c = al then Nx H4 else Q (.bl (!al)) H4) else Nx H3)) :
    ∀ (m n i : Nat) (s₀ s : Shared) (H : Hp), m < n → Inv X [(a, go)] (wipe σ vs) H s → tn i s.heap → (∀ b ∈ fp, H b = none) → W i m H →
      Seg (model X.prog X.w) A (fun n s₀ r s₁ => r = .ok .next ∧ RGn X [(a, go)] Q al n s₀ s₁) (YGn X [(a, go)] Q al) n s₀ (.compLoop (.GeneratorExp elt [⟨tg, iter, ifs, 0⟩] scope pos) 0 (.ref it) .none X.env)
        ((model X.prog X.w).den (.compLoop (.GeneratorExp elt [⟨tg, iter, ifs, 0⟩] scope pos) 0 (.ref it) .none X.env)) [] s := by
  have hov : A.over (.compLoop (.GeneratorExp elt [⟨tg, iter, ifs, 0⟩] scope pos) 0 (.ref it) .none X.env) [] = X.A := hA.symm ▸ over_gen
  have stat : ∀ {σ' : L2.St} {H' : Hp} {s' : Shared}, Inv X [(a, go)] σ' H' s' → (∀ b ∈ fp, H' b = none) → ∀ b ∈ fp, FpOk X [(a, go)] H' b := fun {σ' H' s'} I hn b hb => by
    have hb' : b ∈ X.ex := by rw [hex]; exact hb
    refine ⟨hn b hb, (I.ok.exf b hb').1, I.ok.exfs b hb', .inl hb', fun y c e => (I.ok.exf b hb').2 y c e, fun p hp => ?_⟩
    rw [hpn] at hp
    have hp : p ∈ [(a, go)] := hp
    rw [List.mem_singleton.mp hp]
    exact fun z => haf (by rw [show a = b from z]; exact hb)
  intro m
  induction m using Nat.strongRecOn with
  | ind m ih =>
    intro n i s₀ s H hmn I st hn w
    show Seg _ A _ _ _ s₀ _ ((compTurn (.GeneratorExp elt [⟨tg, iter, ifs, 0⟩] scope pos) 0 (.ref it) .none X.env).onRaise (leaving X.env)) [] s
    rw [compTurn_gen, Sem.onRaise_eq_wrap]
    refine seg_bind_wrap (wpAny_standAt ?_)
    rcases turn i m H w with ⟨stop, q⟩ | ⟨go', Nx, hNx, step⟩
    · refine seg_bind_wrap ?_
      rw [hov]
      refine thnF (T.done X rfl rfl rfl hc i _ s _ H (fun _ _ => False) I (stat I hn) st stop) fun r s1 ⟨hr, I1⟩ => ?_
      subst hr
      exact seg_end (.ok .next) ⟨rfl, _, _, I1, q⟩
    · refine seg_bind_wrap ?_
      rw [hov]
      refine thnF (T.item X rfl rfl rfl hc i _ s _ H (fun _ _ => False) I (stat I hn) st go') fun r s1 ⟨u, hr, h1⟩ => ?_
      subst hr
      refine seg_bind_wrap ?_
      rw [hov]
      refine thnF h1 fun _ s2 ⟨x, H2, I2, r2, y2, st2, n2⟩ => ?_
      have I2' := I2.pinned (stat I2 n2) (T.obj _ _ st2)
      refine seg_bind_wrap ?_
      rw [hov]
      have pgr := pg.run _ s2 _ H2 x u _ I2' r2 (step x H2 y2)
      have ptr := fun pins s σ H Q I h => pt.run pins s σ H Q I h
      have per := fun pins s σ H Q I h => pe.run pins s σ H Q I h
      rw [hx] at pgr ptr per
      refine thnF pgr fun _ s3 ⟨σ3, H3, I3, hw3, q3⟩ => ?_
      refine seg_bind_wrap ?_
      rw [hov]
      refine thnF (ptr _ s3 σ3 H3 _ I3 q3) fun b s4 ⟨H4, I4, q4⟩ => ?_
      have fin : ∀ {s' : Shared} {H' : Hp}, Inv X ([(a, go)] ++ pinsAt fp s2.heap) σ3 H' s' → Nx H' → ∃ m', m' < m ∧ Inv X [(a, go)] (wipe σ vs) H' s' ∧ tn (i + 1) s'.heap ∧ (∀ b ∈ fp, H' b = none) ∧ W (i + 1) m' H' := fun {s' H'} I' nx => by
        obtain ⟨m', hm, w'⟩ := hNx H' nx
        have pin' : ∀ b ∈ fp, ∀ o, s2.heap.get? b = some o → s'.heap.get? b = some o ∧ H' b = none := fun b hb o e =>
          let z := I'.pin (b, o) (List.mem_append_right _ (List.mem_append_right _ (mem_pinsAt hb e)))
          ⟨z.1, z.2.1⟩
        have hl : (wipe σ vs).length = σ3.length := by rw [← hw3, wipe_length]
        refine ⟨m', hm, (I'.unpinned (pins := [(a, go)])).weak hl (fun j v e => ?_), T.keep _ _ _ st2 fun b hb o e => (pin' b hb o e).1, fun b hb => ?_, w'⟩
        · rw [← hw3] at e
          exact (wipe_some e).1
        · obtain ⟨o, e, _⟩ := T.obj _ _ st2 b hb
          exact (pin' b hb o e).2
      cases b with
      | false =>
        simp only [Bool.false_eq_true, if_false] at q4 ⊢
        obtain ⟨m', hm, I5, st5, n5, w5⟩ := fin I4 q4
        exact seg_again rfl (ih m' hm n (i + 1) s₀ s4 H4 (Nat.lt_trans hm hmn) I5 st5 n5 w5)
      | true =>
        simp only [if_true] at q4 ⊢
        have hy : ∀ v, yieldOut X.env v = yieldValue v := fun v => by simp only [yieldOut, hco, Bool.false_eq_true, if_false]
        simp only [hy]
        obtain ⟨k, rfl⟩ : ∃ k, n = k + 1 := ⟨n - 1, by omega⟩
        rw [Sem.bind_eq_wrap', Sem.bind_eq_wrap', Sem.wrap_wrap, Sem.wrap_wrap]
        refine seg_wrap ?_
        rw [hov]
        refine thnF (per _ s4 σ3 H4 _ I4 q4) fun v s5 ⟨yv, H5, I5, r5, c, ey, q5⟩ => ?_
        subst ey
        have r5 : v = Value.bool c := r5
        refine seg_at (seg_yield rfl rfl rfl ⟨c, σ3, H5, r5, I5.unpinned (pins := [(a, go)]), fun hne => ?_, fun he s' hh ho hg => ?_⟩)
        · rw [if_neg hne] at q5
          exact q5
        · rw [if_pos he] at q5
          obtain ⟨m', hm, I6, st6, n6, w6⟩ := fin I5 q5
          have I7 : Inv X [(a, go)] (wipe σ vs) H5 s' := by
            obtain ⟨h', g', d', t', o'⟩ := s'
            have hh : h' = s5.heap := hh
            have ho : o' = s5.os := ho
            subst hh ho
            exact I6.call (g' := g') (t' := t') (d' := d') (ch := []) Un.refl I6.hok hg fun b z => by cases z
          exact seg_again rfl (ih m' hm k (i + 1) s' s' H5 (by omega) I7 (by rw [hh]; exact st6) n6 w6)
end GxA

set_option Elab.async false
set_option linter.all false
set_option maxRecDepth 100000
set_option maxHeartbeats 2000000
namespace GxA
open PySem PySem.Spec PyProof.Rows L2 GenW GxR
/-- a generator that may be woken; at most n items are left -/
def Ready (P : Program) (w : World) (A : Around) (Xg : Cx) (a g : Nat) (go : Obj) (Q : VK) (al : Bool) (n : Nat) (s : Shared) : Prop :=
  s.heap.IsGen a g ∧ s.heap.NoLimit ∧ ∃ gs, s.gens[g]? = some gs ∧ gs.Goes (model P w) A (fun n s₀ r s₁ => r = .ok .next ∧ RGn Xg [(a, go)] Q al n s₀ s₁) (YGn Xg [(a, go)] Q al) n (.send .none) (s.setGen g .running)
theorem next_gn {P : Program} {w : World} {A : Around} {Xg : Cx} {a g : Nat} {go : Obj} {Q : VK} {al : Bool} {n : Nat} {s : Shared} {R : Option Value → Shared → Prop} {E : Value → Shared → Prop} (hh : A.handled = none) (hd : A.depth < recursionLimit)
    (hgo : ∀ h : Heap, h.get? a = some go → h.IsGen a g) (h : Ready P w A.in1 Xg a g go Q al n s)
    (hend : ∀ σ H s1 h', Inv Xg [(a, go)] σ H s1 → Q (.bl al) H → (∀ b o, s1.heap.get? b = some o → h'.get? b = some o) → R none { s1.setGen g .finished with heap := h' })
    (hitem : ∀ c σ H s1 gs', gs'.bare = true → Inv Xg [(a, go)] σ H s1 → (c ≠ al → Q (.bl (!al)) H) → (c = al → ∃ m, n = m + 1 ∧ Ready P w A.in1 Xg a g go Q al m (s1.setGen g gs')) → R (some (.bool c)) (s1.setGen g gs')) :
    wpAny (model P w) A (pyNext (.ref a)) R E s := by
  obtain ⟨hg, hl, gs, hgs, hgoes⟩ := h
  have hgl : g < s.gens.size := (Array.getElem?_eq_some_iff.mp hgs).1
  refine wpAny_gsz (n := g + 1) hgl (wpAny_pyNext_genexpQ (P := RGn Xg [(a, go)] Q al) hh hl hd hg hgs hgoes (fun v s1 gs' hb hv => ?_) (fun s1 hp h' hk => ?_))
  · intro hsz
    obtain ⟨c, σ, H, rfl, I, hne, hkap⟩ := hv
    refine hitem c σ H s1 gs' hb I hne fun e => ?_
    have eg : s1.heap.get? a = some go := (I.pin (a, go) (List.mem_append_right _ List.mem_cons_self)).1
    have hsz1 : g < s1.gens.size := by
      have q : (s1.setGen g gs').gens.size = s1.gens.size := setGen_size _ _ _
      have hz : g + 1 ≤ (s1.setGen g gs').gens.size := hsz
      omega
    have k := hkap e ((s1.setGen g gs').setGen g .running) rfl rfl (allBare_setGen (s := s1.setGen g gs') (allBare_setGen I.bare hb) rfl)
    cases n with
    | zero => exact k.elim
    | succ m => exact ⟨m, rfl, hgo _ eg, I.nolimit, gs', setGen_at hsz1, k⟩
  · intro _
    obtain ⟨σ, H, I, q⟩ := hp
    exact hend σ H s1 h' I q hk
section
variable {P : Program} {w : World} {A : Around} {Xg : Cx} {a g : Nat} {go : Obj} {Q : VK} {R : Result → Shared → Prop}
theorem loop_all_gn (hh : A.handled = none) (hd : A.depth < recursionLimit) (hgo : ∀ h : Heap, h.get? a = some go → h.IsGen a g)
    (hend : ∀ (σ : L2.St) H s1 h' (gs : GenState), gs.bare = true → Inv Xg [(a, go)] σ H s1 → Q (.bl true) H → (∀ b o, s1.heap.get? b = some o → h'.get? b = some o) → R (.ok (.ret (.bool true))) { s1.setGen g gs with heap := h' })
    (hout : ∀ (σ : L2.St) H s1 (gs : GenState), gs.bare = true → Inv Xg [(a, go)] σ H s1 → Q (.bl false) H → R (.ok (.ret (.bool false))) (s1.setGen g gs)) :
    ∀ (n : Nat) (s : Shared), Ready P w A.in1.in1 Xg a g go Q true n s → codeAny (model P w) A (.builtin "all.loop" ⟨[.ref a], []⟩) R s := by
  intro n
  induction n with
  | zero =>
    intro s h
    refine codeAny_builtin F.entry_all_loop ?_
    rw [Around.under_plainId F.plain_all_loop _]
    show wpAny _ A.in1 (pyNext (.ref a) >>= _) _ _ s
    refine wpAny_bind (next_gn (A := A.in1) hh hd hgo h (fun σ H s1 h' I q k => wpAny_bind (wpAny_rule (wpAny_pure (hend σ H s1 h' _ rfl I q k)))) (fun c σ H s1 gs hb I hne hq => ?_))
    refine wpAny_bind (wpAny_holding (wpAny_truthy_bool (wpAny_bind (wpAny_letGo ?_))))
    cases c with
    | true =>
      obtain ⟨m, e, _⟩ := hq rfl
      omega
    | false => exact wpAny_bind (wpAny_rule (wpAny_pure (hout σ H s1 gs hb I (hne (by decide)))))
  | succ n ih =>
    intro s h
    refine codeAny_builtin F.entry_all_loop ?_
    rw [Around.under_plainId F.plain_all_loop _]
    show wpAny _ A.in1 (pyNext (.ref a) >>= _) _ _ s
    refine wpAny_bind (next_gn (A := A.in1) hh hd hgo h (fun σ H s1 h' I q k => wpAny_bind (wpAny_rule (wpAny_pure (hend σ H s1 h' _ rfl I q k)))) (fun c σ H s1 gs hb I hne hq => ?_))
    refine wpAny_bind (wpAny_holding (wpAny_truthy_bool (wpAny_bind (wpAny_letGo ?_))))
    cases c with
    | true =>
      obtain ⟨m, e, r⟩ := hq rfl
      obtain rfl : m = n := by omega
      exact wpAny_pure ⟨plainId_quiet F.plain_all_loop _, ih _ r⟩
    | false => exact wpAny_bind (wpAny_rule (wpAny_pure (hout σ H s1 gs hb I (hne (by decide)))))
theorem loop_any_gn (hh : A.handled = none) (hd : A.depth < recursionLimit) (hgo : ∀ h : Heap, h.get? a = some go → h.IsGen a g)
    (hend : ∀ (σ : L2.St) H s1 h' (gs : GenState), gs.bare = true → Inv Xg [(a, go)] σ H s1 → Q (.bl false) H → (∀ b o, s1.heap.get? b = some o → h'.get? b = some o) → R (.ok (.ret (.bool false))) { s1.setGen g gs with heap := h' })
    (hout : ∀ (σ : L2.St) H s1 (gs : GenState), gs.bare = true → Inv Xg [(a, go)] σ H s1 → Q (.bl true) H → R (.ok (.ret (.bool true))) (s1.setGen g gs)) :
    ∀ (n : Nat) (s : Shared), Ready P w A.in1.in1 Xg a g go Q false n s → codeAny (model P w) A (.builtin "any.loop" ⟨[.ref a], []⟩) R s := by
  intro n
  induction n with
  | zero =>
    intro s h
    refine codeAny_builtin F.entry_any_loop ?_
    rw [Around.under_plainId F.plain_any_loop _]
    show wpAny _ A.in1 (pyNext (.ref a) >>= _) _ _ s
    refine wpAny_bind (next_gn (A := A.in1) hh hd hgo h (fun σ H s1 h' I q k => wpAny_bind (wpAny_rule (wpAny_pure (hend σ H s1 h' _ rfl I q k)))) (fun c σ H s1 gs hb I hne hq => ?_))
    refine wpAny_bind (wpAny_holding (wpAny_truthy_bool (wpAny_bind (wpAny_letGo ?_))))
    cases c with
    | false =>
      obtain ⟨m, e, _⟩ := hq rfl
      omega
    | true => exact wpAny_bind (wpAny_rule (wpAny_pure (hout σ H s1 gs hb I (hne (by decide)))))
  | succ n ih =>
    intro s h
    refine codeAny_builtin F.entry_any_loop ?_
    rw [Around.under_plainId F.plain_any_loop _]
    show wpAny _ A.in1 (pyNext (.ref a) >>= _) _ _ s
    refine wpAny_bind (next_gn (A := A.in1) hh hd hgo h (fun σ H s1 h' I q k => wpAny_bind (wpAny_rule (wpAny_pure (hend σ H s1 h' _ rfl I q k)))) (fun c σ H s1 gs hb I hne hq => ?_))
    refine wpAny_bind (wpAny_holding (wpAny_truthy_bool (wpAny_bind (wpAny_letGo ?_))))
    cases c with
    | false =>
      obtain ⟨m, e, r⟩ := hq rfl
      obtain rfl : m = n := by omega
      exact wpAny_pure ⟨plainId_quiet F.plain_any_loop _, ih _ r⟩
    | true => exact wpAny_bind (wpAny_rule (wpAny_pure (hout σ H s1 gs hb I (hne (by decide)))))
end
end GxA

set_option Elab.async false
set_option linter.all false
set_option maxRecDepth 100000
set_option maxHeartbeats 2000000
namespace GxA
open PySem PySem.Spec PyProof.Rows L2 GenW GxR
/-- a made generator, and the way back to the frame that walks it -/
def Made (X : Cx) (pins : List (Addr × Obj)) (σ : L2.St) (Q : VK) (al : Bool) (a : Addr) (s5 : Shared) : Prop :=
  ∃ (Xg : Cx) (g : Nat) (go : Obj) (n : Nat), Ready X.prog X.w X.A.in1.in1 Xg a g go Q al n s5 ∧ (∀ h : Heap, h.get? a = some go → h.IsGen a g) ∧
    ∀ (σ' : L2.St) (H' : Hp) (s1 : Shared) (h' : Heap) (gs : GenState), Inv Xg [(a, go)] σ' H' s1 → (∀ b o, s1.heap.get? b = some o → h'.get? b = some o) → gs.bare = true → Inv X pins σ H' { s1.setGen g gs with heap := h' }
section
variable {X : Cx}
theorem gen_made {pins : List (Addr × Obj)} {σ : L2.St} {H : Hp} {s : Shared} {Q : VK} {al : Bool} {k : Nat} {c P : Addr} {elt tg iter : Expr} {ifs : List Expr} {scope : Scope} {own : List (Str × Nat)} {pos : Pos} {wi : TI} {g : TG} {tt : TT} {te : TE} {Q' : Value → Shared → Prop}
    (hr : Room (k + 1) X.A) (hc : X.calm = true) (TB : TabB X.base X.mg c P) (hcode : X.env.code = .ref c) (hN : X.N.Nodup) (dot : (".0" : Str) ∉ X.N) (ok : BlkOk X.N X.env.scope scope own) (noc : ∀ y ∈ scope.names, y.2 ≠ .cell)
    (hdot : scope.names.lookup (".0" : Str) = some NameKind.local) (hco : scope.isCoroutine = false) (hi : PI X tg iter wi)
    (hg : ∀ (s : Shared) (H : Hp) (C : Addr) (code : Value) (cl : List (Str × Addr)) (fp : List Addr), PG (gcx X X.A.in1.in1 s H (genEnv scope cl C code builtinsNs X.env) fp) tg g)
    (ht : ∀ (s : Shared) (H : Hp) (C : Addr) (code : Value) (cl : List (Str × Addr)) (fp : List Addr), Room k (X.A.in1.in1.deeper (genEnv scope cl C code builtinsNs X.env)) → PTs (gcx X X.A.in1.in1 s H (genEnv scope cl C code builtinsNs X.env) fp) ifs tt)
    (he : ∀ (s : Shared) (H : Hp) (C : Addr) (code : Value) (cl : List (Str × Addr)) (fp : List Addr), Room k (X.A.in1.in1.deeper (genEnv scope cl C code builtinsNs X.env)) → PE (gcx X X.A.in1.in1 s H (genEnv scope cl C code builtinsNs X.env) fp) elt te)
    (hs : ∀ v, genFold iter X.env v = pure v) (I : Inv X pins σ H s) (h : tGen P al wi g tt te (own.map (·.2)) σ H Q) (hQ : ∀ a s5, Made X pins σ Q al a s5 → Q' (.ref a) s5) :
    wpAny (model X.prog X.w) X.A (eval (.GeneratorExp elt [⟨tg, iter, ifs, 0⟩] scope pos) X.env) Q' X.xe s := by
  have hfree : ∀ y ∈ scope.names, y.2 = .free → ∃ c, X.env.cells.lookup y.1 = some c := fun y hy e => (ok.free y hy e).elim (fun z => I.ok.has _ (.inl z)) fun z => I.ok.has _ (.inr z)
  have hdp : X.A.depth < recursionLimit := by have := hr.dp; omega
  refine wpAny_GeneratorExp_make hco (closure_ok hfree) noc hdot ok.kind hdp ?_ hs
  refine thn (hi.run pins s σ H _ I h) fun xv s1 h1 => thn h1 fun itv s2 h2 => ?_
  obtain ⟨it, fp, tn, J, H2, e, I2, T, st2, f2, ⟨ps, hP, htr⟩, q⟩ := h2
  subst e
  refine ⟨I2.nolimit, ?_⟩
  have hPs : s2.heap.get? P = some { cls := .none, data := .fields ps } := I2.hok P _ hP
  have cd : PySem.W.CodeHd s2.heap c P := TB.code.keeps I2.bk
  have cont : ∀ (code : Value) (h3 : Heap) (tk : Nat) (ps' : Array Value), Heap.ExtBut P s2.heap h3 → s2.heap.objs.size ≤ h3.objs.size → h3.get? P = some { cls := .none, data := .fields ps' } → (∃ more, ps' = ps ++ more) → TriplesOk ps'.toList →
      wpAny (model X.prog X.w) X.A (builtinsFor X.env.globals X.env.builtins) (fun bi s₄ =>
        ∀ h', h'.Ns s₄.heap.objs.size (fun y => if y = ".0" then some (Value.ref it) else none) → Heap.SameBut s₄.heap.objs.size (s₄.heap.push { cls := .type "frame", data := .dict #[] }) h' →
          Q' (.ref h'.objs.size) { s₄ with
            gens := s₄.gens.push (.fresh (.compStart (.GeneratorExp elt [⟨tg, iter, ifs, 0⟩] scope pos) 0 (.ref it) .none (genEnv scope (cloFrom X.env.cells scope.names []) s₄.heap.objs.size code bi X.env))),
            toks := s₄.toks + 1 + 1 + 1,
            heap := h'.push { cls := .type "generator", data := .fields #[.int s₄.gens.size 0, .str "<genexpr>" (s₄.toks + 1), .str (X.env.qual ++ "<genexpr>") (s₄.toks + 1 + 1)] } }) X.xe { s2 with heap := h3, toks := tk } := by
    intro code h3 tk ps' hx hsz hP3 hmore htr3
    obtain ⟨more, em⟩ := hmore
    obtain ⟨bm, ob, b1, b2, b3, b4, b5, b6, b7, b8⟩ := TB.bm
    have keep3 : ∀ b u, b ≠ P → s2.heap.get? b = some u → h3.get? b = some u := fun b u hb z => hx b u hb z
    have I4 : Inv X pins σ (upd H2 P (.tbl ps')) { s2 with heap := h3, toks := tk } := by
      have := inv_tab (more := more) (h' := h3) (g' := s2.gens) (d' := s2.drawn) (t' := tk) I2 hP keep3 (by rw [← em]; exact hP3) I2.bare
      rw [← em] at this
      exact this
    refine wpAny_builtinsFor (m := X.mg) (by rw [I2.ok.glob]; exact (I2.mod.glob.keeps I2.bk).extBut hx TB.gP) b1 b2 (keep3 _ _ b4 (I2.bk _ _ b5)) b6 b7 b8 ?_
    intro h' hn' hs'
    generalize hs4 : ({ s2 with heap := h3, toks := tk } : Shared) = s4 at I4 hn' hs' ⊢
    have e4 : s4.heap = h3 := by rw [← hs4]
    generalize hgo : ({ cls := .type "generator", data := .fields #[.int s4.gens.size 0, .str "<genexpr>" (s4.toks + 1), .str (X.env.qual ++ "<genexpr>") (s4.toks + 1 + 1)] } : Obj) = go
    have hz' : h'.objs.size = s4.heap.objs.size + 1 := by rw [hs'.1, Heap.size_push]
    have keep' : ∀ b o, s4.heap.get? b = some o → h'.get? b = some o := fun b o z => hs'.extBut b o (Nat.ne_of_lt (Heap.lt_size z)) (Heap.get?_push_of_some _ z)
    have keep5 : ∀ b o, s4.heap.get? b = some o → (h'.push go).get? b = some o := fun b o z => Heap.get?_push_of_some _ (keep' b o z)
    have hga : (h'.push go).get? h'.objs.size = some go := by rw [← hgo]; exact Heap.get?_push_size _ rfl
    have hgen : ∀ h : Heap, h.get? h'.objs.size = some go → h.IsGen h'.objs.size s4.gens.size := fun h z => ⟨go, .str "<genexpr>" (s4.toks + 1), .str (X.env.qual ++ "<genexpr>") (s4.toks + 1 + 1), z, by rw [← hgo], by rw [← hgo], by rw [← hgo]⟩
    generalize ha : h'.objs.size = a at hz' hga hgen ⊢
    have nP : ∀ b, H2 b = none → b ≠ P := fun b z y => by rw [y, hP] at z; cases z
    have f4 : ∀ b ∈ fp, FpOk X pins (upd H2 P (.tbl ps')) b ∧ b < s4.heap.objs.size := fun b hb => by
      obtain ⟨o, z, _⟩ := T.obj _ _ st2 b hb
      have n2 := (f2 b hb).1
      refine ⟨⟨by rw [upd_ne (nP b n2)]; exact n2, (f2 b hb).2⟩, ?_⟩
      rw [e4]
      exact Heap.lt_size (keep3 b o (nP b n2) z)
    have st4 : tn 0 s4.heap := T.keep _ _ _ st2 fun b hb o z => by
      rw [e4]
      exact keep3 b o (nP b (f2 b hb).1) z
    obtain ⟨W, ⟨m0, w0⟩, turn⟩ := q (upd H2 P (.tbl ps')) ⟨⟨ps', upd_same, htr3⟩, fun b hb => upd_ne hb⟩
    generalize upd H2 P (.tbl ps') = H4 at I4 f4 w0
    have hA : X.A.in1.in1.handled = none := hr.hd
    have hrg : Room k (X.A.in1.in1.deeper (genEnv scope (cloFrom X.env.cells scope.names []) s4.heap.objs.size code builtinsNs X.env)) := by
      refine ⟨hr.hd, ?_, ?_⟩
      · have := hr.dp
        show X.A.depth + 1 + 3 * k + 5 < _
        omega
      · have := hr.un
        show X.A.units + 1 + 1 + 3 + 16 * k + 200 < _
        omega
    have I5 := gen_start (A := X.A.in1.in1) (code := code) (itv := Value.ref it) (s' := { s4 with
            gens := s4.gens.push (.fresh (.compStart (.GeneratorExp elt [⟨tg, iter, ifs, 0⟩] scope pos) 0 (.ref it) .none (genEnv scope (cloFrom X.env.cells scope.names []) s4.heap.objs.size code builtinsNs X.env))),
            toks := s4.toks + 1 + 1 + 1, heap := h'.push go }) I4 ok hN noc dot f4 hA I4.ok.frames keep5 (hn'.push _) rfl (AllBare.push I4.bare rfl)
    have pg := hg s4 H4 s4.heap.objs.size code (cloFrom X.env.cells scope.names []) fp
    have pt := ht s4 H4 s4.heap.objs.size code (cloFrom X.env.cells scope.names []) fp hrg
    have pe := he s4 H4 s4.heap.objs.size code (cloFrom X.env.cells scope.names []) fp hrg
    have aup : s4.heap.objs.size ≤ a := by rw [hz']; exact Nat.le_succ _
    have nfr : a ∉ frs X.stack := fun z => by
      have y := I4.stkSub a z
      rcases List.mem_cons.mp y with y | y
      · have z1 := I4.lt
        rw [← y, hz'] at z1
        exact Nat.lt_irrefl _ (Nat.lt_of_succ_lt z1)
      · exact I4.nofs aup y
    have nH4 : H4 a = none := I4.hok.fresh aup
    have gcell : ∀ v, go.data ≠ .cell v := fun v z => by
      rw [← hgo] at z
      cases z
    have ecode : (genEnv scope (cloFrom X.env.cells scope.names []) s4.heap.objs.size code builtinsNs X.env).locals = s4.heap.objs.size := rfl
    have esc : (genEnv scope (cloFrom X.env.cells scope.names []) s4.heap.objs.size code builtinsNs X.env).scope.isCoroutine = false := hco
    generalize genEnv scope (cloFrom X.env.cells scope.names []) s4.heap.objs.size code builtinsNs X.env = ge at I5 pg pt pe ecode esc ⊢
    generalize hs5 : ({ s4 with
            gens := s4.gens.push (.fresh (.compStart (.GeneratorExp elt [⟨tg, iter, ifs, 0⟩] scope pos) 0 (.ref it) .none ge)),
            toks := s4.toks + 1 + 1 + 1, heap := h'.push go } : Shared) = s5 at I5 ⊢
    have e5 : s5.heap = h'.push go := by rw [← hs5]
    have g5 : s5.gens[s4.gens.size]? = some (.fresh (.compStart (.GeneratorExp elt [⟨tg, iter, ifs, 0⟩] scope pos) 0 (.ref it) .none ge)) := by rw [← hs5]; exact Array.getElem?_push_size ..
    have hga : s5.heap.get? a = some go := by rw [e5]; exact hga
    have keep5 : ∀ b o, s4.heap.get? b = some o → s5.heap.get? b = some o := fun b o z => by rw [e5]; exact keep5 b o z
    have I6 : Inv (gcx X X.A.in1.in1 s4 H4 ge fp) [(a, go)] (wipe σ (own.map (·.2))) H4 s5 := I5.pins_of fun p hp => by
      rw [List.mem_singleton.mp hp]
      refine ⟨hga, nH4, ?_, nfr, gcell⟩
      show a ≠ ge.locals
      rw [ecode, hz']
      exact Nat.succ_ne_self _
    have haf : a ∉ fp := fun z => Nat.lt_irrefl _ (Nat.lt_of_lt_of_le (f4 a z).2 aup)
    refine hQ a _ ⟨gcx X X.A.in1.in1 s4 H4 ge fp, s4.gens.size, go, m0 + 1, ⟨hgen _ hga, I5.nolimit, _, g5, rfl, ?_⟩, hgen, fun σ' H' s1 h1' gs J1 k1 hb => ?_⟩
    · have I7 : Inv (gcx X X.A.in1.in1 s4 H4 ge fp) [(a, go)] (wipe σ (own.map (·.2))) H4 (s5.setGen s4.gens.size .running) := I6.call' (ch := []) rfl Un.refl I6.hok (allBare_setGen I6.bare rfl) fun b z => by cases z
      have loop := seg_loop (A := X.A.in1.in1) (elt := elt) (pos := pos) (scope := scope) (Q := Q) (al := al) (iter := iter) (go := go) (tg := tg) (ifs := ifs) (X := gcx X X.A.in1.in1 s4 H4 ge fp) rfl hc rfl rfl rfl esc haf T pg pt pe turn m0 (m0 + 1) 0 (s5.setGen s4.gens.size .running) (s5.setGen s4.gens.size .running) H4 (Nat.lt_succ_self _) I7 (T.keep _ _ _ st4 fun b _ o z => keep5 b o z) (fun b hb => (f4 b hb).1.1) w0
      show Seg _ X.A.in1.in1 _ _ _ _ _ ((compStart (.GeneratorExp elt [⟨tg, iter, ifs, 0⟩] scope pos) 0 (.ref it) .none ge).onRaise (leaving ge)) [] _
      unfold compStart
      rw [Sem.onRaise_eq_wrap]
      show Seg _ X.A.in1.in1 _ _ _ _ _ ((ask >>= _).wrap _ _ _ _) [] _
      refine seg_bind_wrap (wpAny_askSetting ?_)
      split
      · exact seg_again rfl loop
      · have st5 : tn 0 s5.heap := T.keep _ _ _ st4 fun b _ o z => keep5 b o z
        first
          | exact seg_bind_wrap (wpAny_rule (seg_bind_wrap (wpAny_standAt (seg_bind_wrap (T.self _ 0 _ _ _ st5 (seg_again rfl loop))))))
          | (refine seg_bind_wrap (wpAny_rule ?_)
             show Seg _ X.A.in1.in1 _ _ _ _ _ ((standAt iter.pos >>= _).wrap _ _ _ _) [] _
             exact seg_bind_wrap (wpAny_standAt (seg_bind_wrap (T.self _ 0 _ _ _ st5 (seg_again rfl loop)))))
    · exact I4.call' (ch := fp) J1.os (J1.base.trans (Un.kept k1)) (J1.hok.kept k1) (allBare_setGen J1.bare hb) fun b hb => ⟨(f4 b hb).1.2.2.2.1, (f4 b hb).1.2.1, (f4 b hb).1.2.2.2.2.1, (f4 b hb).1.2.2.2.2.2⟩
  cases hf : codeAmong pos ps.toList with
  | none =>
    refine wpAny_genexprCodeX hcode (cd.code hPs htr) (cd.tab hPs) hf fun c' h3 tk hx hge hlt hco' _ htab' _ => ?_
    obtain ⟨o1, vs, f1, tf, fl, tg1, inF, tx, tt1, op, _, _, _, _, _, _, _, _, _, htr', _⟩ := hco'
    exact cont _ h3 tk _ hx (Nat.le_trans hge (Nat.le_of_lt hlt)) htab'.2 ⟨_, rfl⟩ htr'
  | some cv =>
    refine wpAny_genexprCode_hit hcode (cd.code hPs htr) hf ?_
    exact cont cv s2.heap s2.toks ps (Heap.ExtBut.refl _ _) (Nat.le_refl _) hPs ⟨#[], by simp⟩ htr
end
end GxA

set_option Elab.async false
set_option linter.all false
set_option maxRecDepth 100000
set_option maxHeartbeats 2000000
namespace GxA
open PySem PySem.Spec PyProof.Rows L2 GenW GxR
/-- a generator expression's scope, all at once -/
def genC (N : List Str) (sc scope : Scope) (own : List (Str × Nat)) : Bool :=
  blkC N sc scope own && (scope.names.all fun y => match y.2 with | .cell => false | _ => true) && decide ((".0" : Str) ∉ N) && (match scope.names.lookup (".0" : Str) with | some .local => true | _ => false) && !scope.isCoroutine
structure GenOk (N : List Str) (sc scope : Scope) (own : List (Str × Nat)) : Prop where
  blk : BlkOk N sc scope own
  noc : ∀ y ∈ scope.names, y.2 ≠ .cell
  dot : (".0" : Str) ∉ N
  loc : scope.names.lookup (".0" : Str) = some NameKind.local
  co : scope.isCoroutine = false
theorem genOk_by {N : List Str} {sc scope : Scope} {own : List (Str × Nat)} (h : genC N sc scope own = true) : GenOk N sc scope own := by
  unfold genC at h
  simp only [Bool.and_eq_true, List.all_eq_true, decide_eq_true_eq] at h
  obtain ⟨⟨⟨⟨h1, h2⟩, h3⟩, h4⟩, h5⟩ := h
  refine ⟨blkOk_by h1, fun y hy e => ?_, h3, ?_, by simpa using h5⟩
  · have := h2 y hy
    rw [e] at this
    cases this
  · split at h4
    · assumption
    · cases h4
section
variable {X : Cx}
theorem pe_allG {k : Nat} {c P : Addr} {elt tg iter : Expr} {ifs : List Expr} {scope : Scope} {own : List (Str × Nat)} {gpos p pos : Pos} {wi : TI} {g : TG} {tt : TT} {te : TE}
    (hr : Room (k + 1) X.A) (hc : X.calm = true) (hgl : Gl X "all") (hm : X.mg "all" = none) (TB : TabB X.base X.mg c P) (hcode : X.env.code = .ref c) (hN : X.N.Nodup) (ok : GenOk X.N X.env.scope scope own) (hi : PI X tg iter wi)
    (hg : ∀ (s : Shared) (H : Hp) (C : Addr) (code : Value) (cl : List (Str × Addr)) (fp : List Addr), PG (gcx X X.A.in1.in1 s H (genEnv scope cl C code builtinsNs X.env) fp) tg g)
    (ht : ∀ (s : Shared) (H : Hp) (C : Addr) (code : Value) (cl : List (Str × Addr)) (fp : List Addr), Room k (X.A.in1.in1.deeper (genEnv scope cl C code builtinsNs X.env)) → PTs (gcx X X.A.in1.in1 s H (genEnv scope cl C code builtinsNs X.env) fp) ifs tt)
    (he : ∀ (s : Shared) (H : Hp) (C : Addr) (code : Value) (cl : List (Str × Addr)) (fp : List Addr), Room k (X.A.in1.in1.deeper (genEnv scope cl C code builtinsNs X.env)) → PE (gcx X X.A.in1.in1 s H (genEnv scope cl C code builtinsNs X.env) fp) elt te)
    (hs : ∀ v, genFold iter X.env v = pure v := by intro _; rfl)
    (hst : starEach [.GeneratorExp elt [⟨tg, iter, ifs, 0⟩] scope gpos] X.env = (false, eval (.GeneratorExp elt [⟨tg, iter, ifs, 0⟩] scope gpos) X.env) :: starEach [] X.env := by rfl) :
    PE X (.Call (.Name "all" p) [.GeneratorExp elt [⟨tg, iter, ifs, 0⟩] scope gpos] [] pos) (tGen P true wi g tt te (own.map (·.2))) := by
  refine ⟨fun pins s σ H Q I h => ?_⟩
  refine wpAny_Call_Name_kw (ld_blt I hgl hm (by decide +kernel : bootBuiltins "all" = some (.builtin "all")) ?_)
  refine PyProof.Rows.callWith_builtin1 ?_ hst (by rfl)
  rw [hst]
  show wpAny _ _ (spliced ((false, eval (.GeneratorExp elt [⟨tg, iter, ifs, 0⟩] scope gpos) X.env) :: backTo pos (starEach [] X.env))) _ _ s
  refine Calls.spliced_cons (gen_made hr hc TB hcode hN ok.dot ok.blk ok.noc ok.loc ok.co hi hg ht he hs I h fun a s5 hM => ?_)
  refine Calls.spliced_nil ?_
  obtain ⟨Xg, gg, go, n, R, hgen, back⟩ := hM
  refine call_function_tree F.kind_all F.plain_all F.entry_all (F.args_all1 _) ?_
  unfold Builtin.«all»
  refine wpAny_bind (m := oneArg "all" _) (wpAny_pure ?_)
  refine wpAny_bind (wpAny_pyIter_gen R.1 ?_)
  refine wpAny_pure ⟨plainId_quiet F.plain_all_loop _, loop_all_gn hr.hd (by have := hr.dp; omega) hgen (fun σ' H' s1 h' gs hb J q kk => ?_) (fun σ' H' s1 gs hb J q => ?_) n s5 R⟩
  · exact ⟨.bl true, H', back σ' H' s1 h' gs J kk hb, rfl, q⟩
  · exact ⟨.bl false, H', back σ' H' s1 s1.heap gs J (fun _ _ z => z) hb, rfl, q⟩
theorem pe_anyG {k : Nat} {c P : Addr} {elt tg iter : Expr} {ifs : List Expr} {scope : Scope} {own : List (Str × Nat)} {gpos p pos : Pos} {wi : TI} {g : TG} {tt : TT} {te : TE}
    (hr : Room (k + 1) X.A) (hc : X.calm = true) (hgl : Gl X "any") (hm : X.mg "any" = none) (TB : TabB X.base X.mg c P) (hcode : X.env.code = .ref c) (hN : X.N.Nodup) (ok : GenOk X.N X.env.scope scope own) (hi : PI X tg iter wi)
    (hg : ∀ (s : Shared) (H : Hp) (C : Addr) (code : Value) (cl : List (Str × Addr)) (fp : List Addr), PG (gcx X X.A.in1.in1 s H (genEnv scope cl C code builtinsNs X.env) fp) tg g)
    (ht : ∀ (s : Shared) (H : Hp) (C : Addr) (code : Value) (cl : List (Str × Addr)) (fp : List Addr), Room k (X.A.in1.in1.deeper (genEnv scope cl C code builtinsNs X.env)) → PTs (gcx X X.A.in1.in1 s H (genEnv scope cl C code builtinsNs X.env) fp) ifs tt)
    (he : ∀ (s : Shared) (H : Hp) (C : Addr) (code : Value) (cl : List (Str × Addr)) (fp : List Addr), Room k (X.A.in1.in1.deeper (genEnv scope cl C code builtinsNs X.env)) → PE (gcx X X.A.in1.in1 s H (genEnv scope cl C code builtinsNs X.env) fp) elt te)
    (hs : ∀ v, genFold iter X.env v = pure v := by intro _; rfl)
    (hst : starEach [.GeneratorExp elt [⟨tg, iter, ifs, 0⟩] scope gpos] X.env = (false, eval (.GeneratorExp elt [⟨tg, iter, ifs, 0⟩] scope gpos) X.env) :: starEach [] X.env := by rfl) :
    PE X (.Call (.Name "any" p) [.GeneratorExp elt [⟨tg, iter, ifs, 0⟩] scope gpos] [] pos) (tGen P false wi g tt te (own.map (·.2))) := by
  refine ⟨fun pins s σ H Q I h => ?_⟩
  refine wpAny_Call_Name_kw (ld_blt I hgl hm (by decide +kernel : bootBuiltins "any" = some (.builtin "any")) ?_)
  refine PyProof.Rows.callWith_builtin1 ?_ hst (by rfl)
  rw [hst]
  show wpAny _ _ (spliced ((false, eval (.GeneratorExp elt [⟨tg, iter, ifs, 0⟩] scope gpos) X.env) :: backTo pos (starEach [] X.env))) _ _ s
  refine Calls.spliced_cons (gen_made hr hc TB hcode hN ok.dot ok.blk ok.noc ok.loc ok.co hi hg ht he hs I h fun a s5 hM => ?_)
  refine Calls.spliced_nil ?_
  obtain ⟨Xg, gg, go, n, R, hgen, back⟩ := hM
  refine call_function_tree F.kind_any F.plain_any F.entry_any (F.args_any1 _) ?_
  unfold Builtin.«any»
  refine wpAny_bind (m := oneArg "any" _) (wpAny_pure ?_)
  refine wpAny_bind (wpAny_pyIter_gen R.1 ?_)
  refine wpAny_pure ⟨plainId_quiet F.plain_any_loop _, loop_any_gn hr.hd (by have := hr.dp; omega) hgen (fun σ' H' s1 h' gs hb J q kk => ?_) (fun σ' H' s1 gs hb J q => ?_) n s5 R⟩
  · exact ⟨.bl false, H', back σ' H' s1 h' gs J kk hb, rfl, q⟩
  · exact ⟨.bl true, H', back σ' H' s1 s1.heap gs J (fun _ _ z => z) hb, rfl, q⟩
end
end GxA

set_option Elab.async false
set_option linter.all false
set_option maxRecDepth 100000
set_option maxHeartbeats 400000
/-! zip of a list or a tuple with a list or a tuple; walks of generator expressions. -/
namespace GxA
open PySem PySem.Spec PyProof.Rows L2
/-- a list (false) or a tuple (true) -/
def SqB (K : PySem.W.Frag) (t : Bool) (H : Hp) (a : Addr) (xs : List V) : Prop := match t with
  | true => SqT K H a xs
  | false => SqL K H a xs
def ItB (t : Bool) (h : Heap) (it a : Addr) (i : Nat) : Prop := match t with
  | true => h.IsTupleIter it a i
  | false => h.IsListIter it a i
def CtB (t : Bool) (h : Heap) (a : Addr) (its : Array Value) : Prop := match t with
  | true => h.IsTuple a its
  | false => h.IsList a its
theorem ItB.at {t : Bool} {h h' : Heap} {it a : Addr} {i : Nat} (x : ItB t h it a i) (k : ∀ o, h.get? it = some o → h'.get? it = some o) : ItB t h' it a i := by
  cases t with
  | true => exact Heap.IsTupleIter.at (show h.IsTupleIter it a i from x) k
  | false => exact Heap.IsListIter.at (show h.IsListIter it a i from x) k
theorem ItB.obj {t : Bool} {h : Heap} {it a : Addr} {i : Nat} (x : ItB t h it a i) : ∃ o, h.get? it = some o ∧ ∀ v, o.data ≠ .cell v := by
  cases t with
  | true =>
    obtain ⟨o, e, _, d⟩ := (show h.IsTupleIter it a i from x)
    exact ⟨o, e, fun v q => by rw [d] at q; cases q⟩
  | false =>
    obtain ⟨o, e, _, d⟩ := (show h.IsListIter it a i from x)
    exact ⟨o, e, fun v q => by rw [d] at q; cases q⟩
theorem drawsB {prog : Program} {w : World} {A : Around} (hh : A.handled = none) (t : Bool) {it a : Addr} (hne : a ≠ it) (its : Array Value) :
    Draws prog w A it [it, a] its.size (fun i v => its[i]? = some v) (fun i h => ItB t h it a i ∧ CtB t h a its) := by
  cases t with
  | true => exact Draws.tuple hh it a hne its
  | false => exact Draws.list hh it a hne its
section
variable {X : Cx} {pins : List (Addr × Obj)} {σ : L2.St} {H : Hp} {s : Shared} {a : Addr} {xs ys : List V} {t : Bool}
theorem sqB_in (I : Inv X pins σ H s) (h : SqB X.K t H a xs) : ∃ its : List Value, Vals xs its ∧ CtB t s.heap a its.toArray := by
  cases t with
  | true =>
    obtain ⟨its, r, p, _⟩ := I.tuple (show SqT X.K H a xs from h)
    exact ⟨its, r, p⟩
  | false =>
    obtain ⟨its, r, p, _⟩ := I.list (show SqL X.K H a xs from h)
    exact ⟨its, r, p.isList⟩
theorem sqB_inj (I : Inv X pins σ H s) (h : SqB X.K t H a xs) (h' : SqB X.K t H a ys) : xs = ys := by
  cases t with
  | true => exact I.tuple_inj (show SqT X.K H a xs from h) h'
  | false => exact I.list_inj (show SqL X.K H a xs from h) h'
end
theorem CtB.lt {t : Bool} {h : Heap} {a : Addr} {its : Array Value} (x : CtB t h a its) : a < h.objs.size := by
  cases t with
  | true =>
    obtain ⟨o, e, _⟩ := (show h.IsTuple a its from x)
    exact Heap.lt_size e
  | false =>
    obtain ⟨o, e, _⟩ := (show h.IsList a its from x)
    exact Heap.lt_size e
/-- what stands at a and b at each turn, in new pairs -/
def ItzB (K : PySem.W.Frag) (t u : Bool) (a b : Addr) : It :=
  ⟨fun i H => ∃ (xs ys : List V) (x y : V), SqB K t H a xs ∧ SqB K u H b ys ∧ xs[i]? = some x ∧ ys[i]? = some y,
    fun i H v H' => ∃ T x y, v = .ref T ∧ H T = none ∧ H' = upd H T (.tup [x, y]) ∧ (∀ xs, SqB K t H a xs → xs[i]? = some x) ∧ ∀ ys, SqB K u H b ys → ys[i]? = some y,
    fun i H => ∃ xs ys : List V, SqB K t H a xs ∧ SqB K u H b ys ∧ i ≤ xs.length ∧ i ≤ ys.length ∧ (i = xs.length ∨ i = ys.length)⟩
theorem sep_of {z TI TO i1 i2 a b : Addr} (D : ZipApart z TI TO i1 i2 a b) : ZipSep2 z TI TO i1 i2 [i1, a] [i2, b] := by
  refine ⟨D.TIz, D.TOz, D.TITO, D.TIi1, by simp, ?_, ?_, D.TIi2, by simp, ?_, ?_, ?_, ?_⟩ <;> simp only [List.mem_cons, List.not_mem_nil, or_false, not_or]
  · exact ⟨D.i1z.symm, D.l1z.symm⟩
  · exact ⟨D.TOi1, D.l1TO.symm⟩
  · exact ⟨D.i2z.symm, D.l2z.symm⟩
  · exact ⟨D.TOi2, D.l2TO.symm⟩
  · exact ⟨D.i12, D.l2i1.symm⟩
  · exact ⟨D.i12.symm, D.l1i2.symm⟩
theorem turn_zipB {P : Program} {w : World} {K : PySem.W.Frag} {elts : List Expr} {kk : Nat} {tpos : Pos} {t u : Bool} {a b z TI TO i1 i2 : Addr} (D : ZipApart z TI TO i1 i2 a b) :
    Turn P w K (.Tuple elts kk tpos) (ItzB K t u a b) [z, TI, TO, i1, i2] z (fun i h => IsZip h z TI TO .none ∧ IsPair h TI (.ref i1) (.ref i2) ∧ (∃ x y, IsPair h TO x y) ∧ ItB t h i1 a i ∧ ItB u h i2 b i) where
  mem := List.mem_cons_self
  obj := fun i h ⟨hz, hI, ⟨x, y, hO⟩, h1, h2⟩ c hc => by
    have e : c = z ∨ c = TI ∨ c = TO ∨ c = i1 ∨ c = i2 := by simpa using hc
    rcases e with rfl | rfl | rfl | rfl | rfl
    · exact ⟨_, hz, fun v q => nomatch q⟩
    · exact ⟨_, hI, fun v q => nomatch q⟩
    · exact ⟨_, hO, fun v q => nomatch q⟩
    · exact h1.obj
    · exact h2.obj
  keep := fun i h h' ⟨hz, hI, ⟨x, y, hO⟩, h1, h2⟩ k => ⟨k z (by simp) _ hz, k TI (by simp) _ hI, ⟨x, y, k TO (by simp) _ hO⟩, h1.at fun o q => k i1 (by simp) o q, h2.at fun o q => k i2 (by simp) o q⟩
  item := by
    intro X hP hw hK hc i pins s σ H E I hf st hg
    subst hP hw hK
    obtain ⟨hz, hI, ⟨x0, y0, hO⟩, h1, h2⟩ := st
    obtain ⟨xs, ys, x, y, qx, qy, hx, hy⟩ := hg
    obtain ⟨ia, rv, p⟩ := sqB_in I qx
    obtain ⟨ib, rv2, p2⟩ := sqB_in I qy
    obtain ⟨ua, hua, rua⟩ := rv.get hx
    obtain ⟨ub, hub, rub⟩ := rv2.get hy
    have zlt : z < s.heap.objs.size := Heap.lt_size hz
    have la : i < ia.toArray.size := by simpa using (List.getElem?_eq_some_iff.mp hua).1
    have lb : i < ib.toArray.size := by simpa using (List.getElem?_eq_some_iff.mp hub).1
    have hA := I.ok.hd hc
    refine wpAny_pyNext_zipD2_item (sep_of D) (drawsB (prog := X.prog) (w := X.w) (A := X.A.in1) hA t D.l1i1 ia.toArray) (drawsB (prog := X.prog) (w := X.w) (A := X.A.in1) hA u D.l2i2 ib.toArray) hz hI hO ⟨h1, p⟩ ⟨h2, p2⟩ la lb fun x1 x2 h' tk e1 e2 hz' hO' s1' s2' hT hsz hk => ?_
    have e1 : x1 = ua := Option.some.inj (e1.symm.trans (by simpa using hua))
    have e2 : x2 = ub := Option.some.inj (e2.symm.trans (by simpa using hub))
    subst e1 e2
    refine ⟨_, rfl, wpAny_letOwnedTupleGo_zip (s := { s with heap := h', toks := tk }) hz' fun h'' hz'' sb => ?_⟩
    have hT2 : h''.get? s.heap.objs.size = some { cls := .type "tuple", data := .seq #[x1, x2] } := (sb.2 _ (Nat.ne_of_gt zlt)).trans hT
    have I1 : Inv X pins σ (upd H s.heap.objs.size (.tup [x, y])) { s with heap := h'', toks := tk } := by
      refine I.turnedNew (t' := tk) (ch := [z, TI, TO, i1, i2]) (fun c o hb q => ?_) hf (Nat.le_refl _) ⟨(by show 2 ≤ sizeLine; decide), [x1, x2], .cons rua (.cons rub .nil), ⟨_, hT2, rfl, _, rfl⟩⟩
      simp only [List.mem_cons, List.not_mem_nil, or_false, not_or] at hb
      exact (sb.2 _ hb.1).trans (hk c o hb.1 hb.2.2.1 hb.2.2.2.1 hb.2.2.2.2 q)
    refine ⟨.ref s.heap.objs.size, _, I1, rfl, ⟨_, x, y, rfl, I.hok.fresh (Nat.le_refl _), rfl, fun l hl => by rw [sqB_inj I hl qx]; exact hx, fun l hl => by rw [sqB_inj I hl qy]; exact hy⟩, ⟨hz'', ?_, ⟨x1, x2, ?_⟩, s1'.1.at fun o q => (sb.2 _ D.i1z).trans q, s2'.1.at fun o q => (sb.2 _ D.i2z).trans q⟩, fun c hm => ?_⟩
    · exact (sb.2 _ D.TIz).trans (hk _ _ D.TIz D.TITO D.TIi1 D.TIi2 hI)
    · exact (sb.2 _ D.TOz).trans hO'
    · have hlt : c < s.heap.objs.size := by
        have e : c = z ∨ c = TI ∨ c = TO ∨ c = i1 ∨ c = i2 := by simpa using hm
        rcases e with rfl | rfl | rfl | rfl | rfl
        · exact zlt
        · exact Heap.lt_size hI
        · exact Heap.lt_size hO
        · obtain ⟨_, e, _⟩ := h1.obj
          exact Heap.lt_size e
        · obtain ⟨_, e, _⟩ := h2.obj
          exact Heap.lt_size e
      rw [upd_ne (Nat.ne_of_lt hlt)]
      exact (hf c hm).1
  done := by
    intro X hP hw hK hc i pins s σ H E I hf st hg
    subst hP hw hK
    obtain ⟨hz, hI, ⟨x0, y0, hO⟩, h1, h2⟩ := st
    obtain ⟨xs, ys, qx, qy, l1, l2, hend⟩ := hg
    obtain ⟨ia, rv, p⟩ := sqB_in I qx
    obtain ⟨ib, rv2, p2⟩ := sqB_in I qy
    have e1 : ia.toArray.size = xs.length := by simpa using rv.length.symm
    have e2 : ib.toArray.size = ys.length := by simpa using rv2.length.symm
    have hA := I.ok.hd hc
    refine wpAny_pyNext_zipD2_end (sep_of D) (drawsB (prog := X.prog) (w := X.w) (A := X.A.in1) hA t D.l1i1 ia.toArray) (drawsB (prog := X.prog) (w := X.w) (A := X.A.in1) hA u D.l2i2 ib.toArray) hz hI hO ⟨h1, p⟩ ⟨h2, p2⟩ (by rw [e1]; exact l1) (by rw [e2]; exact l2) (by rw [e1, e2]; exact hend) fun h' tk hk => ⟨rfl, ?_⟩
    refine I.turnedL (t' := tk) (ch := [z, TI, TO, i1, i2]) (fun c o hb q => ?_) hf
    simp only [List.mem_cons, List.not_mem_nil, or_false, not_or] at hb
    exact hk c o hb.1 hb.2.2.1 hb.2.2.2.1 hb.2.2.2.2 q
  self := fun A i s Q E st h => wpAny_pyIter_zip st.1 h
theorem vals_cons {x : V} {xs : List V} {us : List Value} (r : Vals (x :: xs) us) : ∃ u us', us = u :: us' ∧ RelV x u ∧ Vals xs us' := by
  cases r with
  | cons h t => exact ⟨_, _, rfl, h, t⟩
def iZipB (K : PySem.W.Frag) (t u : Bool) (ta : TA) : TI := fun σ H R => ta σ H fun vs H1 => ∃ a b xs ys, vs = [.ref a, .ref b] ∧ SqB K t H1 a xs ∧ SqB K u H1 b ys ∧ R (ItzB K t u a b) H1
theorem beginsB (t : Bool) (a : Addr) (its : Array Value) : ∃ o : Obj, Begins (.ref a) o (fun h => CtB t h a its) ∧ ∀ (h : Heap) (it : Addr), h.get? it = some o → ItB t h it a 0 := by
  cases t with
  | true => exact ⟨_, begins_tuple a its, fun h it e => show h.IsTupleIter it a 0 from ⟨_, e, rfl, rfl⟩⟩
  | false => exact ⟨_, begins_list a its, fun h it e => show h.IsListIter it a 0 from ⟨_, e, rfl, rfl⟩⟩
theorem pi_zipB (t u : Bool) {X : Cx} {e e2 : Expr} {ta : TA} {p pos tpos : Pos} {elts : List Expr} {kk : Nat} (hg : Gl X "zip") (hm : X.mg "zip" = none) (ha : PA X [e, e2] ta)
    (hs : starEach [e, e2] X.env = (false, eval e X.env) :: starEach [e2] X.env := by rfl) (hpl : (backTo pos (starEach [e2] X.env)).any (·.1) = false := by rfl) :
    PI X (.Tuple elts kk tpos) (.Call (.Name "zip" p) [e, e2] [] pos) (iZipB X.K t u ta) := by
  refine ⟨fun pins s σ H R I h => ?_⟩
  refine Call_ (ld_blt I hg hm PyProof.Rows.boot_zip (PyProof.Rows.callWith_type1 (thn (ha.run pos pins s σ H _ I h) fun us s1 ⟨vs, H1, I1, r1, q1⟩ => ?_) hs hpl))
  obtain ⟨a, b, xs, ys, rfl, qx, qy, q⟩ := q1
  obtain ⟨u1, us1, rfl, ra, r2⟩ := vals_cons r1
  obtain ⟨u2, us2, rfl, rb, r3⟩ := vals_cons r2
  have r3' := r3.length
  obtain rfl : us2 = [] := List.length_eq_zero_iff.mp r3'.symm
  have ra : u1 = Value.ref a := ra
  have rb : u2 = Value.ref b := rb
  subst ra rb
  obtain ⟨ia, rv, pa⟩ := sqB_in I1 qx
  obtain ⟨ib, rv2, pb⟩ := sqB_in I1 qy
  obtain ⟨oa, Ba, ka⟩ := beginsB t a ia.toArray
  obtain ⟨ob, Bb, kb⟩ := beginsB u b ib.toArray
  refine zip_begins2 Ba Bb pa pb fun h' hz hTI hTO h1 h2 hsz hk => wpAny_pyIter_zip hz ?_
  have I2 : Inv X pins σ H1 { s1 with heap := h' } := I1.kept (t' := s1.toks) hk
  refine ⟨s1.heap.objs.size + 4, [s1.heap.objs.size + 4, s1.heap.objs.size + 2, s1.heap.objs.size + 3, s1.heap.objs.size, s1.heap.objs.size + 1], _, _, H1, rfl, I2, turn_zipB (PySem.W.ktu_apart s1.heap.objs.size a b pa.lt pb.lt), ⟨hz, hTI, ⟨_, _, hTO⟩, ka _ _ h1, kb _ _ h2⟩, fun c hm => ?_, q⟩
  have e : c = s1.heap.objs.size + 4 ∨ c = s1.heap.objs.size + 2 ∨ c = s1.heap.objs.size + 3 ∨ c = s1.heap.objs.size ∨ c = s1.heap.objs.size + 1 := by simpa using hm
  have hle : s1.heap.objs.size ≤ c := by
    rcases e with y | y | y | y | y <;> rw [y]
    · exact Nat.le_add_right _ _
    · exact Nat.le_add_right _ _
    · exact Nat.le_add_right _ _
    · exact Nat.le_refl _
    · exact Nat.le_add_right _ _
  exact I1.fpOk hle (I1.hok.fresh hle)
theorem walk_zipB {K : PySem.W.Frag} {t u : Bool} {a b : Addr} {xs ys : List V} (hl : xs.length = ys.length) : Walk (ItzB K t u a b) xs.length (fun H => SqB K t H a xs ∧ SqB K u H b ys) (YPair (fun i => xs[i]?) fun i => ys[i]?) where
  goes := fun i H hi ⟨qx, qy⟩ => ⟨xs, ys, xs[i], ys[i]'(by omega), qx, qy, by simp [hi], by simp [← hl, hi]⟩
  stops := fun H ⟨qx, qy⟩ => ⟨xs, ys, qx, qy, Nat.le_refl _, Nat.le_of_eq hl, .inl rfl⟩
  yields := fun i H v H' hi ⟨qx, qy⟩ ⟨T, x, y, e1, e2, e3, e4, e5⟩ => ⟨T, x, y, e1, e2, e3, e4 xs qx, e5 ys qy⟩
theorem walk_zipBm {K : PySem.W.Frag} {t u : Bool} {a b : Addr} {xs ys : List V} {n : Nat} (hn : n = min xs.length ys.length) : Walk (ItzB K t u a b) n (fun H => SqB K t H a xs ∧ SqB K u H b ys) (YPair (fun i => xs[i]?) fun i => ys[i]?) where
  goes := fun i H hi ⟨qx, qy⟩ => ⟨xs, ys, xs[i]'(by omega), ys[i]'(by omega), qx, qy, by simp [show i < xs.length by omega], by simp [show i < ys.length by omega]⟩
  stops := fun H ⟨qx, qy⟩ => ⟨xs, ys, qx, qy, by omega, by omega, by omega⟩
  yields := fun i H v H' hi ⟨qx, qy⟩ ⟨T, x, y, e1, e2, e3, e4, e5⟩ => ⟨T, x, y, e1, e2, e3, e4 xs qx, e5 ys qy⟩
/-- all or any over a walk: Pv by the turn and the heap -/
theorem gen_it {J : It} {n : Nat} {G : Hp → Prop} {Y : Nat → Hp → V → Hp → Prop} (w : Walk J n G Y) {al : Bool} {g : TG} {tt : TT} {te : TE} {vs : List Nat} {σ : L2.St} {H2 : Hp} {Q : VK} (Pv : Nat → Hp → Prop) (h0 : Pv 0 H2) (hG : ∀ i H, i ≤ n → Pv i H → G H)
    (hs : ∀ i x H H', i < n → Pv i H → Y i H x H' → g x (wipe σ vs) H' fun σ2 H2 => wipe σ2 vs = wipe σ vs ∧ tt σ2 H2 fun b H3 =>
      if b = true then te σ2 H3 fun y H4 => ∃ c, y = .bl c ∧ (if c = al then Pv (i + 1) H4 else Q (.bl (!al)) H4) else Pv (i + 1) H3) (hd : ∀ H, Pv n H → Q (.bl al) H) :
    ∃ W : Nat → Nat → Hp → Prop, (∃ m, W 0 m H2) ∧ ∀ i m H, W i m H →
      (J.stop i H ∧ Q (.bl al) H) ∨ (J.go i H ∧ ∃ Nx : Hp → Prop, (∀ H', Nx H' → ∃ m', m' < m ∧ W (i + 1) m' H') ∧ ∀ x H', J.yld i H x H' → g x (wipe σ vs) H' fun σ2 H2 => wipe σ2 vs = wipe σ vs ∧ tt σ2 H2 fun b H3 =>
        if b = true then te σ2 H3 fun y H4 => ∃ c, y = .bl c ∧ (if c = al then Nx H4 else Q (.bl (!al)) H4) else Nx H3) := by
  refine ⟨fun i m H => m = n - i ∧ i ≤ n ∧ Pv i H, ⟨n, rfl, Nat.zero_le _, h0⟩, ?_⟩
  rintro i m H ⟨rfl, hi, p⟩
  have q := hG i H hi p
  by_cases hlt : i < n
  · refine .inr ⟨w.goes i H hlt q, Pv (i + 1), fun H' p' => ⟨n - (i + 1), by omega, rfl, hlt, p'⟩, fun x H' y => ?_⟩
    exact hs i x H H' hlt p (w.yields i H x H' hlt q y)
  · obtain rfl : i = n := by omega
    exact .inl ⟨w.stops H q, hd H p⟩
end GxA

set_option Elab.async false
set_option linter.all false
set_option maxRecDepth 100000
set_option maxHeartbeats 400000
/-! a def that holds a generator expression: its code object is known; the end of a law with such defs. -/
namespace GxA
open PySem PySem.Spec PyProof.Rows L2 GxR
structure FunC (K : PySem.W.Frag) (x qual : Str) (st : Stmt) (f c : Addr) (fd : FuncData) : Prop where
  ex : ∃ (oc : Value) (od : Option Addr) (kV doc pm : Value) (an : Option Addr) (ct : Value) (osl : Array (Option Value)),
    fd = PySem.W.fnOf x qual (defArgs st) (defBody st) (defScope st) .none kV doc pm an (.ref c) ct ∧ K.lookup f = some ⟨oc, od, .func fd, osl⟩ ∧ PySem.W.codeIn K (.ref c) qual = true
section
variable {P : Program} {w : World} {K : PySem.W.Frag} {mg : Str → Option Value} {base : Heap}
theorem FunC.ok {x qual : Str} {st : Stmt} {f c : Addr} {fd : FuncData} {N ps : List Str} {k : Nat} {sp : Sp} (F : FunC K x qual st f c fd) (S : FnScope N ps (defScope st)) (len : ∀ vs H Q E, sp vs H Q E → vs.length = ps.length)
    (hb : ∀ (A : Around) (outer : List Env) (s : Shared) (H : Hp) (vs : List V) (Q : VK) (E : XK), Room k (A.deeper (envOfC qual (defScope st) s.heap.objs.size f (.ref c))) → sp vs H Q E →
      ∃ t, PSs (cxOf CX0 P w K mg base N qual (defScope st) f (.ref c) A outer s H E).nox (defBody st) t ∧ t { nx := fun _ H' => Q .non H', rt := Q } (start N vs) H) : FnOk P w K mg base CX0 (k + 1) f fd ps sp := by
  obtain ⟨oc, od, kV, doc, pm, an, ct, osl, rfl, lk, hcd⟩ := F.ex
  refine fn_of lk hcd S len fun A outer s H vs Q E hr h => ?_
  obtain ⟨t, h1, q⟩ := hb A outer s H vs Q E hr h
  exact ⟨t, h1.nox, q⟩
theorem FunC.fun {x qual : Str} {st : Stmt} {f c : Addr} {fd : FuncData} (F : FunC K x qual st f c fd) (kp : PySem.W.keepIn K (.ref f) = true) : Fun K x qual st f fd := by
  obtain ⟨oc, od, kV, doc, pm, an, ct, osl, e, lk, hcd⟩ := F.ex
  exact ⟨⟨oc, od, kV, doc, pm, an, _, ct, osl, e, lk, hcd⟩, kp⟩
/-- the code object out of the written part -/
theorem funC_mk {x : Str} {st : Stmt} {f c T : Addr} {oc : Value} {od an : Option Addr} {osl : Array (Option Value)} {kV doc pm cdv ct : Value} (a : PySem.W.nsIn K mainGlobals x = some (some (.ref f)))
    (l : K.lookup f = some ⟨oc, od, .func (PySem.W.fnOf x x (defArgs st) (defBody st) (defScope st) .none kV doc pm an cdv ct), osl⟩) (hcd : PySem.W.codeIn K cdv x = true) (t : PySem.W.tabIn K x = some (c, T)) :
    FunC K x x st f c (PySem.W.fnOf x x (defArgs st) (defBody st) (defScope st) .none kV doc pm an cdv ct) := by
  have e : cdv = .ref c := by
    unfold PySem.W.tabIn at t
    rw [a] at t
    simp only [l] at t
    cases cdv with
    | ref b =>
      simp only at t
      split at t
      · split at t
        · have := Option.some.inj t
          rw [(Prod.mk.inj this).1]
        · cases t
      · cases t
    | _ => simp at t
  subst e
  exact ⟨_, _, _, _, _, _, _, _, rfl, l, hcd⟩
theorem tabB_of {c T : Addr} (t : LamX.TabB base mg c T) : TabB base mg c T := ⟨t.code, t.bm, t.gP⟩
end
theorem tabG_nil {H : Hp} {P : Addr} (h : H P = some (.tbl #[])) : TabG H P := ⟨#[], h, True.intro⟩
/-- what is known of the written defs' tables at the head's heap -/
def TabsIn (q : Program) (K : PySem.W.Frag) (h : Heap) : Prop := ∀ x c P, ((recsOf q).any fun e => e.name == x) = true → PySem.W.tabIn K x = some (c, P) → PySem.W.CodeHd h c P ∧ h.get? P = some { cls := .none, data := .fields #[] }
theorem walk_ofTabs {l : PySem.W.OpenLaw} {n k : Nat} {q : Program} {loose : List Str} {XP : (Str → Option Value) → Heap → Prop} {YP : World → Heap → Prop} {d : DefRec} {K : Params → PySem.W.Frag} {CX : World → CXT} {x : Str}
    (hn : l.most = some n) (hn2 : n ≤ sizeLine) (hdf : d.params.defaults = []) (hr : Room k callerA) (hY : ∀ (w : World) (h : Heap), YP w h → (K w.params).In h)
    (F : ∀ (w : World) (mg : Str → Option Value) (fa : Addr) (h : Heap), TabsIn q (K w.params) h → (K w.params).In h → h.Ns mainGlobals mg → mg d.name = some (.ref fa) → LamX.LawAtS l w (K w.params) (CX w) k n x mg fa h)
    (hCX : ∀ (w : World) (H : Hp) (s : Shared) (e : Value) (s' : Shared), CX w [] H s (fun _ _ _ => False) e s' → False) :
    PySem.W.WalkO q loose XP YP l.row.toRowW d [] (fun f vs => PySem.call f vs) := by
  refine Att.attach_callB hn hdf fun w s₀ s₁ mg mb fa o pm cd doc a vs ns G Y ho hd hcd hmg hobj hints hlen hbits hg => ?_
  have KX := hY w _ Y
  have tabs : TabsIn q (K w.params) s₁.heap := fun y c P hy ht => by
    cases e : (recsOf q).find? (fun e => e.name == y) with
    | none =>
      obtain ⟨dL, hm, hn1⟩ := List.any_eq_true.mp hy
      exact absurd hn1 (List.find?_eq_none.mp e dL hm)
    | some dr => exact PySem.W.tab_of G.T KX e ht
  obtain ⟨fd, cs, sp, hT, nT, C, hb, hsp, hF⟩ := F w mg fa _ tabs KX G.T.g hmg
  exact LamX.law_callTs KX G.T.g G.T.b G.T.builtins G.T.nolimit hg hT nT C G.T.bmain hobj hints (Nat.le_trans hlen hn2) hr hF hb (fun H z1 z2 => hsp H a ns hlen hbits z1 z2) fun H e s' => hCX w H s₁ e s'
end GxA

set_option Elab.async false
set_option linter.all false
set_option maxRecDepth 100000
set_option maxHeartbeats 1000000
/-! sorted of a list of data of one kind. -/
namespace GxA
open PySem PySem.Spec PyProof.Rows L2
theorem each_of {R : Value → V × PyData → Prop} : ∀ {xs : List V} {ds : List PyData} {us : List Value}, Vals xs us → xs.length = ds.length → (∀ x d u, (x, d) ∈ xs.zip ds → RelV x u → R u (x, d)) → PySem.W.EachIs R us (xs.zip ds)
  | [], ds, us, r, _, _ => by
    cases r
    exact .nil
  | x :: xs, [], us, r, hl, _ => by simp at hl
  | x :: xs, d :: ds, us, r, hl, h => by
    cases r with
    | cons a t => exact .cons (h x d _ List.mem_cons_self a) (each_of t (by simpa using hl) fun x' d' u' hm => h x' d' u' (List.mem_cons_of_mem _ hm))
theorem vals_each : ∀ {us : List Value} {bs : List (V × PyData)}, PySem.W.EachIs (fun u (b : V × PyData) => RelV b.1 u) us bs → Vals (bs.map Prod.fst) us
  | _, _, .nil => .nil
  | _, _, .cons a t => .cons a (vals_each t)
theorem dpAll_zip {K : PySem.W.Frag} {H : Hp} : ∀ {xs : List V} {ds : List PyData}, DpAll K H xs ds → xs.length = ds.length ∧ ∀ b ∈ xs.zip ds, Dp K H b.1 b.2
  | _, _, .nil => ⟨rfl, fun b h => by cases h⟩
  | _, _, .cons a t => by
    obtain ⟨h1, h2⟩ := dpAll_zip t
    refine ⟨by rw [List.length_cons, List.length_cons, h1], fun b hb => ?_⟩
    rcases List.mem_cons.mp hb with rfl | hb
    · exact a
    · exact h2 b hb
/-- sorted(xs), what stands in xs read as data: their pairs sorted by the datum, equal ones in their order -/
def srtD (xs : List V) (ds : List PyData) : List (V × PyData) := (xs.zip ds).mergeSort (PySem.W.dataLe false Prod.snd)
def rSortedD (K : PySem.W.Frag) : List V → Hp → VK → Prop := fun vs H Q => ∃ (a : Addr) (xs : List V) (ds : List PyData), vs = [.ref a] ∧ SqL K H a xs ∧ DpAll K H xs ds ∧ PySem.W.AllAlike ds ∧ PySem.W.Sortable ds ∧ (∀ d ∈ ds, d.depth ≤ 30) ∧
  ∀ p, H p = none → Q (.ref p) (upd H p (.lst ((srtD xs ds).map Prod.fst)))
theorem call_sortedData {X : Cx} (hu : X.A.units + 40 < cLine) : CallR X (.builtin "sorted") (rSortedD X.K) := by
  intro pins s σ H vs us Q I r h
  obtain ⟨a, xs, ds, rfl, hs, hd, hal, hso, hdp, q⟩ := h
  obtain ⟨its, rv, hl, hz⟩ := I.list hs
  obtain ⟨u, rfl, ru⟩ := vals1 r
  obtain rfl : u = Value.ref a := ru
  obtain ⟨hlen, hz2⟩ := dpAll_zip hd
  have e2 : (xs.zip ds).map Prod.snd = ds := by
    rw [List.map_snd_zip]
    omega
  have lz : (xs.zip ds).length = xs.length := by
    rw [List.length_zip]
    omega
  refine PySem.W.sorted_data (bs := xs.zip ds) (enc := Prod.snd) (R := fun u (b : V × PyData) => RelV b.1 u) hl.isList (each_of rv hlen fun x d u _ h => h) (each_of rv hlen fun x d u hm h => Dp.reads I d x u (hz2 _ hm) h) (by rw [e2]; exact hal) (by rw [e2]; exact hso) (by rw [lz]; exact hz)
    (fun b hb => ?_) fun out lo eo => ?_
  · have := hdp b.2 (by rw [← e2]; exact List.mem_map_of_mem hb)
    omega
  · have nS : H (s.heap.objs.size + 1) = none := I.hok.fresh (Nat.le_succ _)
    obtain ⟨n, hn⟩ := PyProof.Rows.sortedAll_at s.heap its out.toArray
    have rv2 := vals_each eo
    refine ⟨.ref (s.heap.objs.size + 1), upd H (s.heap.objs.size + 1) (.lst ((srtD xs ds).map Prod.fst)), I.laid (t' := s.toks) (fun b o e => PyProof.Rows.sortedAll_old e) (Nat.le_succ _) ⟨?_, out, n, rv2, hn⟩, rfl, q _ nS⟩
    have e : ((srtD xs ds).map Prod.fst).length = xs.length := rv2.length.trans (lo.trans lz)
    rw [e]
    exact hz
end GxA

set_option Elab.async false
set_option linter.all false
set_option maxRecDepth 100000
set_option maxHeartbeats 1000000
/-! sorted of a dict whose keys are tuples of one kind. -/
namespace GxA
open PySem PySem.Spec PyProof.Rows L2
def kD : Key → PyData
  | .inl i => .int i
  | .inr x => .str x
theorem readsK {h : Heap} : ∀ {k : List Key} {us : List Value}, Vals (k.map kV) us → ReadsAll h us (k.map kD) []
  | [], us, r => by
    cases r
    exact .nil
  | .inl i :: k, us, r => by
    obtain ⟨u, us', rfl, ra, r'⟩ := vals_cons r
    obtain ⟨t, rfl⟩ := (show ∃ t, u = Value.int i t from ra)
    exact ReadsAll.cons (as := []) (bs := []) (Reads.int i t) (readsK r')
  | .inr x :: k, us, r => by
    obtain ⟨u, us', rfl, ra, r'⟩ := vals_cons r
    obtain ⟨t, rfl⟩ := (show ∃ t, u = Value.str x t from ra)
    exact ReadsAll.cons (as := []) (bs := []) (Reads.str x t) (readsK r')
theorem depthK : ∀ k : List Key, PyData.depthAll (k.map kD) = 0
  | [] => rfl
  | .inl i :: k => by
    show max 0 (PyData.depthAll (k.map kD)) = 0
    rw [depthK k]
    rfl
  | .inr i :: k => by
    show max 0 (PyData.depthAll (k.map kD)) = 0
    rw [depthK k]
    rfl
/-- the keys as data -/
def ksD (kvs : List (List Key × V)) : List PyData := kvs.map fun p => .tuple (p.1.map kD)
theorem keys_zip {H : Hp} : ∀ {kvs : List (List Key × V)} {bs : List Addr}, IsKeys H kvs bs → bs.length = kvs.length ∧ ∀ z ∈ (bs.map V.ref).zip (ksD kvs), ∃ (b : Addr) (k : List Key), z = (V.ref b, PyData.tuple (k.map kD)) ∧ H b = some (.tup (k.map kV))
  | _, _, .nil => ⟨rfl, fun z h => by cases h⟩
  | p :: kvs, b :: bs, .cons a t => by
    obtain ⟨h1, h2⟩ := keys_zip (kvs := kvs) (bs := bs) t
    refine ⟨by rw [List.length_cons, List.length_cons, h1], fun z hz => ?_⟩
    rcases List.mem_cons.mp (show z ∈ (V.ref b, PyData.tuple (p.1.map kD)) :: (bs.map V.ref).zip (ksD kvs) from hz) with rfl | hz
    · exact ⟨b, p.1, rfl, a⟩
    · exact h2 z hz
def rSortedDT : List V → Hp → VK → Prop := fun vs H Q => ∃ (d : Addr) (kvs : List (List Key × V)), vs = [.ref d] ∧ Rd H d (.dT kvs) ∧ PySem.W.AllAlike (ksD kvs) ∧ PySem.W.Sortable (ksD kvs) ∧
  ∀ (p : Addr) (bs : List Addr), H p = none → IsKeys H kvs bs → Q (.ref p) (upd H p (.lst ((srtD (bs.map V.ref) (ksD kvs)).map Prod.fst)))
theorem call_sortedDT {X : Cx} (hc : X.calm = true) (hu : X.A.units + 40 < cLine) : CallR X (.builtin "sorted") rSortedDT := by
  intro pins s σ H xs us Q I r h
  obtain ⟨d, kvs, rfl, hd, hal, hso, q⟩ := h
  obtain ⟨u, rfl, rx⟩ := r.one
  cases rx
  obtain ⟨z, hs, ks, pr, o, es, ep, ho, hx, hdt, he, hn⟩ := (show ObjOk X.prog X.w H s.heap d (.dT kvs) from hd.ok I.hok)
  have l1 : es.size = ks.length := size_of_entries he
  have l2 : kvs.length = ks.length := Paired.length pr
  refine Calls.call_function_entry PyProof.Rows.kind_sorted PyProof.Rows.plain_sorted PyProof.Rows.entry_sorted (PyProof.Rows.args_sorted1 _) ?_
  unfold Builtin.«sorted»
  refine wpAny_bind (m := checkCount "sorted" 1 1 _) (wpAny_pure ?_)
  refine wpAny_bind (PySem.W.kdu_collect (A := X.A.in1) (kdl_raw hs hx hdt) (I.ok.hd hc) ho (by omega) fun h' tk acc kp it => ?_)
  have ea : acc.toList = (ks.map fun x => x.2.1).map Value.ref := by
    have hl : acc.toList.length = ks.length := by rw [Array.length_toList, it.1]; exact l1
    apply List.ext_getElem?
    intro j
    rw [List.getElem?_map, List.getElem?_map]
    cases hj : acc.toList[j]? with
    | none =>
      have h1 := List.getElem?_eq_none_iff.mp hj
      rw [List.getElem?_eq_none (by omega)]
      all_goals rfl
    | some v =>
      obtain ⟨en, hen, hv⟩ := it.2 j v (by rw [← Array.getElem?_toList]; exact hj)
      have qe := entry_at he j
      rw [hen] at qe
      cases hb : ks[j]? with
      | none =>
        rw [hb] at qe
        exact nomatch (show some en = none from qe)
      | some b =>
        rw [hb] at qe
        have e2 : en = entryOfKey (tupleKind (mixKind X.prog X.w)) b := Option.some.inj qe
        rw [hv, e2]
        all_goals rfl
  have I1 : Inv X pins σ H { s with heap := h', toks := tk } := I.kept kp
  have hk : IsKeys H kvs (ks.map fun x => x.2.1) := isKeys_of pr
  generalize (ks.map fun x => x.2.1) = bs at ea hk
  obtain ⟨kl, kz⟩ := keys_zip hk
  have rv : Vals (bs.map V.ref) acc.toList := by
    rw [ea]
    exact L2.vals_refs bs
  have lacc : acc.toList.length = bs.length := by rw [ea, List.length_map]
  have dl : (bs.map V.ref).length = (ksD kvs).length := by
    unfold ksD
    rw [List.length_map, List.length_map, kl]
  have e2 : ((bs.map V.ref).zip (ksD kvs)).map Prod.snd = ksD kvs := by
    rw [List.map_snd_zip]
    omega
  have lz : ((bs.map V.ref).zip (ksD kvs)).length = bs.length := by
    rw [List.length_zip, ← dl, List.length_map, Nat.min_self]
  have bsz : bs.length ≤ sizeLine := by omega
  refine wpAny_bind (wpAny_newList ?_ (by rw [lacc]; exact bsz))
  have hoL : (h'.push (seqObj "list" acc.toList.toArray 0)).get? h'.objs.size = some (seqObj "list" acc.toList.toArray 0) := Heap.get?_push_size _ rfl
  show wpAny _ _ _ _ _ { s with heap := h'.push (seqObj "list" acc.toList.toArray 0), toks := tk }
  refine wpAny_bind (wpAny_holding (PySem.W.list_sort_data (s := { s with heap := h'.push (seqObj "list" acc.toList.toArray 0), toks := tk }) (bs := (bs.map V.ref).zip (ksD kvs)) (enc := Prod.snd) (R := fun u (b : V × PyData) => RelV b.1 u) hoL
    (each_of rv dl fun x d u _ h => h) (each_of rv dl fun x dd u hm ru => ?_) (by rw [e2]; exact hal) (by rw [e2]; exact hso) (by rw [lz]; exact bsz) (fun b hb => ?_) fun out lo eo => ?_))
  · obtain ⟨b, k, e, hb⟩ := kz _ hm
    cases e
    obtain rfl : u = Value.ref b := ru
    obtain ⟨_, its2, r2, ob, hob, hcb, n, hdb⟩ := I1.hok _ _ hb
    exact ⟨[], Reads.tuple (Heap.get?_push_of_some _ hob) hcb hdb (by simpa using readsK r2), by simp⟩
  · obtain ⟨b', k, e, _⟩ := kz _ hb
    subst e
    show X.A.in1.units + 1 + (PyData.depthAll (k.map kD) + 1) < cLine
    rw [depthK]
    show X.A.units + 1 + 1 + 1 < cLine
    omega
  · obtain ⟨n, hn'⟩ := PyProof.Rows.sortedHeap_at (vs := acc.toList) (out := out.toArray) hoL
    have rv2 := vals_each eo
    have nS : H h'.objs.size = none := I1.hok.fresh (Nat.le_refl _)
    have e : ((srtD (bs.map V.ref) (ksD kvs)).map Prod.fst).length = bs.length := rv2.length.trans (lo.trans lz)
    refine wpAny_pure ⟨_, rfl, .ref h'.objs.size, upd H h'.objs.size (.lst ((srtD (bs.map V.ref) (ksD kvs)).map Prod.fst)), I1.laid (t' := tk) (fun b u eb => ?_) (Nat.le_refl _) ⟨by rw [e]; exact bsz, out, n, rv2, hn'⟩, rfl, q _ bs nS hk⟩
    have hb : b < h'.objs.size := Heap.lt_size eb
    rw [PyProof.Rows.sortedHeap_old (Nat.ne_of_lt hb) (by rw [size_push']; exact Nat.lt_succ_of_lt hb)]
    exact Heap.get?_push_of_some _ eb
end GxA

set_option Elab.async false
set_option linter.all false
set_option maxRecDepth 100000
set_option maxHeartbeats 1000000
namespace K0
open PySem L2
/-- what may stand where an expression, a statement or an end is asked -/
inductive Ed where
  | non
  | bl (b : Bool)
  | int (i : Int)
  | str (s : Str)
  | t0
  | t1 (s : Str)
  | t2 (s : Str) (a : Ed)
  | t3 (s : Str) (a b : Ed)
  | t4 (s : Str) (a b c : Ed)
def EdAt (H : Hp) : Ed → V → Prop
  | .non, v => v = .non
  | .bl b, v => v = .bl b
  | .int i, v => v = .int i
  | .str s, v => v = .str s
  | .t0, v => ∃ a, v = .ref a ∧ H a = some (.tup [])
  | .t1 s, v => ∃ a, v = .ref a ∧ H a = some (.tup [.str s])
  | .t2 s x, v => ∃ a u, v = .ref a ∧ H a = some (.tup [.str s, u]) ∧ EdAt H x u
  | .t3 s x y, v => ∃ a u u2, v = .ref a ∧ H a = some (.tup [.str s, u, u2]) ∧ EdAt H x u ∧ EdAt H y u2
  | .t4 s x y z, v => ∃ a u u2 u3, v = .ref a ∧ H a = some (.tup [.str s, u, u2, u3]) ∧ EdAt H x u ∧ EdAt H y u2 ∧ EdAt H z u3
theorem EdAt.mono {H H' : Hp} (t : Tups H H') : ∀ {e : Ed} {v : V}, EdAt H e v → EdAt H' e v
  | .non, v, h => h
  | .bl _, v, h => h
  | .int _, v, h => h
  | .str _, v, h => h
  | .t0, v, ⟨a, e1, e2⟩ => ⟨a, e1, t _ _ e2⟩
  | .t1 s, v, ⟨a, e1, e2⟩ => ⟨a, e1, t _ _ e2⟩
  | .t2 s x, v, ⟨a, u, e1, e2, h⟩ => ⟨a, u, e1, t _ _ e2, EdAt.mono t h⟩
  | .t3 s x y, v, ⟨a, u, u2, e1, e2, h, h2⟩ => ⟨a, u, u2, e1, t _ _ e2, EdAt.mono t h, EdAt.mono t h2⟩
  | .t4 s x y z, v, ⟨a, u, u2, u3, e1, e2, h, h2, h3⟩ => ⟨a, u, u2, u3, e1, t _ _ e2, EdAt.mono t h, EdAt.mono t h2, EdAt.mono t h3⟩
def edD : Ed → PyData
  | .non => .none
  | .bl b => .bool b
  | .int i => .int i
  | .str s => .str s
  | .t0 => .tuple []
  | .t1 s => .tuple [.str s]
  | .t2 s x => .tuple [.str s, edD x]
  | .t3 s x y => .tuple [.str s, edD x, edD y]
  | .t4 s x y z => .tuple [.str s, edD x, edD y, edD z]
def Ed.deep : Ed → Nat
  | .t2 _ x => x.deep + 1
  | .t3 _ x y => max x.deep y.deep + 1
  | .t4 _ x y z => max x.deep (max y.deep z.deep) + 1
  | _ => 1
/-- its texts can be laid -/
def Ed.ok : Ed → Prop
  | .str s => PyData.canLay0 (.str s) = true
  | .t1 s => PyData.canLay0 (.str s) = true
  | .t2 s x => PyData.canLay0 (.str s) = true ∧ x.ok
  | .t3 s x y => PyData.canLay0 (.str s) = true ∧ x.ok ∧ y.ok
  | .t4 s x y z => PyData.canLay0 (.str s) = true ∧ x.ok ∧ y.ok ∧ z.ok
  | _ => True
theorem dp_ed {K : PySem.W.Frag} {H : Hp} : ∀ {e : Ed} {v : V}, EdAt H e v → Dp K H v (edD e)
  | .non, v, h => by subst h; exact .non
  | .bl b, v, h => by subst h; exact .bl b
  | .int i, v, h => by subst h; exact .int i
  | .str s, v, h => by subst h; exact .str s
  | .t0, v, ⟨a, e1, e2⟩ => by subst e1; exact .tup (.inl (.of e2)) .nil
  | .t1 s, v, ⟨a, e1, e2⟩ => by subst e1; exact .tup (.inl (.of e2)) (.cons (.str _) .nil)
  | .t2 s x, v, ⟨a, u, e1, e2, h⟩ => by subst e1; exact .tup (.inl (.of e2)) (.cons (.str _) (.cons (dp_ed h) .nil))
  | .t3 s x y, v, ⟨a, u, u2, e1, e2, h, h2⟩ => by subst e1; exact .tup (.inl (.of e2)) (.cons (.str _) (.cons (dp_ed h) (.cons (dp_ed h2) .nil)))
  | .t4 s x y z, v, ⟨a, u, u2, u3, e1, e2, h, h2, h3⟩ => by subst e1; exact .tup (.inl (.of e2)) (.cons (.str _) (.cons (dp_ed h) (.cons (dp_ed h2) (.cons (dp_ed h3) .nil))))
theorem can_ed : ∀ {e : Ed}, e.ok → (edD e).canLay0 = true
  | .non, _ => rfl
  | .bl b, _ => rfl
  | .int i, _ => rfl
  | .str s, h => h
  | .t0, _ => rfl
  | .t1 s, h => by
    have h : PyData.canLay0 (.str s) = true := h
    simp only [edD, PyData.canLay0, PyData.canLayAll0] at h ⊢
    simp [h]
  | .t2 s x, ⟨h, h1⟩ => by
    have e1 := can_ed h1
    simp only [edD, PyData.canLay0, PyData.canLayAll0] at h e1 ⊢
    simp [h, e1]
  | .t3 s x y, ⟨h, h1, h2⟩ => by
    have e1 := can_ed h1
    have e2 := can_ed h2
    simp only [edD, PyData.canLay0, PyData.canLayAll0] at h e1 e2 ⊢
    simp [h, e1, e2]
  | .t4 s x y z, ⟨h, h1, h2, h3⟩ => by
    have e1 := can_ed h1
    have e2 := can_ed h2
    have e3 := can_ed h3
    simp only [edD, PyData.canLay0, PyData.canLayAll0] at h e1 e2 e3 ⊢
    simp [h, e1, e2, e3]
theorem dep_ed : ∀ e : Ed, (edD e).depth ≤ e.deep
  | .non => by simp [edD, PyData.depth, Ed.deep]
  | .bl b => by simp [edD, PyData.depth, Ed.deep]
  | .int i => by simp [edD, PyData.depth, Ed.deep]
  | .str s => by simp [edD, PyData.depth, Ed.deep]
  | .t0 => by simp [edD, PyData.depth, PyData.depthAll, Ed.deep]
  | .t1 s => by simp [edD, PyData.depth, PyData.depthAll, Ed.deep]
  | .t2 s x => by
    have := dep_ed x
    simp [edD, PyData.depth, PyData.depthAll, Ed.deep]
    omega
  | .t3 s x y => by
    have := dep_ed x
    have := dep_ed y
    simp [edD, PyData.depth, PyData.depthAll, Ed.deep]
    omega
  | .t4 s x y z => by
    have := dep_ed x
    have := dep_ed y
    have := dep_ed z
    simp [edD, PyData.depth, PyData.depthAll, Ed.deep]
    omega
/-- a whole number from a to b, no truth value -/
def inI : Ed → Int → Int → Bool
  | .int i, a, b => decide (a ≤ i) && decide (i ≤ b)
  | _, _, _ => false
def isT : Ed → Bool
  | .t0 | .t1 _ | .t2 _ _ | .t3 _ _ _ | .t4 _ _ _ _ => true
  | _ => false
def lenT : Ed → Nat
  | .t1 _ => 1
  | .t2 _ _ => 2
  | .t3 _ _ _ => 3
  | .t4 _ _ _ _ => 4
  | _ => 0
def singles : List Str := ["load", "not", "neg"]
/-- whether it is an expression of at most that depth -/
def isE (W : Nat) : Nat → Ed → Bool
  | n + 1, .t2 s a => if s = "int" then inI a 0 (2 ^ W - 1) else if s = "var" then inI a 0 99 else decide (s ∈ singles) && isE W n a
  | n + 1, .t3 s a b => decide (s ∈ tenS) && (isE W n a && isE W n b)
  | _, _ => false
def stB (W : Nat) : Ed → Bool
  | .t3 s a b => if s = "set" then inI a 0 99 && isE W 20 b else decide (s = "store") && (isE W 20 a && isE W 20 b)
  | .t2 s a => decide (s = "write") && isE W 20 a
  | _ => false
def valI : Ed → Int
  | .int i => i
  | _ => 0
/-- the targets of an end, if it is one -/
def endT (W : Nat) : Ed → Option (List Int)
  | .t2 s a => if s = "go" then (if inI a 0 999 then some [valI a] else none) else if s = "return" then (if isE W 20 a then some [] else none) else none
  | .t4 s a b c => if s = "if" then (if isE W 20 a && (inI b 0 999 && inI c 0 999) then some [valI b, valI c] else none) else none
  | _ => none
theorem isE_t (W n : Nat) {e : Ed} (h : isT e = false) : isE W n e = false := by
  cases n with
  | zero => rfl
  | succ n => cases e <;> first | rfl | cases h
/-- all but the tables of generator expressions -/
def Gt (Ts : List Addr) (H : Hp) : Prop := ∀ T ∈ Ts, GxR.TabG H T
def KG (Ts : List Addr) (H H' : Hp) : Prop := ∀ b o, H b = some o → b ∉ Ts → H' b = some o
theorem KG.refl (Ts : List Addr) (H : Hp) : KG Ts H H := fun _ _ e _ => e
theorem KG.trans {Ts : List Addr} {H H1 H2 : Hp} (a : KG Ts H H1) (b : KG Ts H1 H2) : KG Ts H H2 := fun c o e n => b c o (a c o e n) n
theorem KG.of {Ts : List Addr} {H H1 : Hp} (s : Same H H1) : KG Ts H H1 := fun b o e _ => s b o e
theorem Gt.same {Ts : List Addr} {H H1 : Hp} (g : Gt Ts H) (s : Same H H1) : Gt Ts H1 := fun T hT => by
  obtain ⟨ps, e1, e2⟩ := g T hT
  exact ⟨ps, s _ _ e1, e2⟩
theorem Gt.not {Ts : List Addr} {H : Hp} (g : Gt Ts H) {b : Addr} {o : HO} (h : H b = some o) (n : ∀ ps, o ≠ .tbl ps) : b ∉ Ts := fun z => by
  obtain ⟨ps, e1, _⟩ := g b z
  rw [h] at e1
  exact n _ (Option.some.inj e1)
theorem KG.tups {Ts : List Addr} {H H1 : Hp} (g : Gt Ts H) (k : KG Ts H H1) : Tups H H1 := fun b xs e => k b _ e (g.not e fun _ z => by cases z)
theorem KG.lst {Ts : List Addr} {H H1 : Hp} (g : Gt Ts H) (k : KG Ts H H1) {b : Addr} {xs : List V} (e : H b = some (.lst xs)) : H1 b = some (.lst xs) := k b _ e (g.not e fun _ z => by cases z)
theorem KG.drd {Ts : List Addr} {H H1 : Hp} (g : Gt Ts H) (k : KG Ts H H1) {d c : Addr} {ns : List Int} (D : Drd H d c ns) : Drd H1 d c ns := by
  obtain ⟨a, l, s, D⟩ := D
  exact ⟨a, l, s, { D with at_ := k _ _ D.at_ (g.not D.at_ fun _ z => by cases z), cells := k _ _ D.cells (g.not D.cells fun _ z => by cases z) }⟩
theorem Gt.keep {Ts : List Addr} {H H1 : Hp} {d c : Addr} {ns : List Int} (g : Gt Ts H) (D : Drd H d c ns) (k : Keep d H H1) : Gt Ts H1 := fun T hT => by
  obtain ⟨ps, e1, e2⟩ := g T hT
  obtain ⟨_, _, _, D⟩ := D
  exact ⟨ps, k _ _ e1 (ne_of e1 D.at_ fun z => by cases z), e2⟩
theorem gt_tabbed {Ts : List Addr} {H H1 : Hp} {T : Addr} (g : Gt Ts H) (hT : T ∈ Ts) (t : GxR.Tabbed T H H1) : Gt Ts H1 ∧ KG Ts H H1 := by
  obtain ⟨t1, t2⟩ := t
  refine ⟨fun T' hT' => ?_, fun b o e n => by rw [t2 b (fun z => n (z ▸ hT))]; exact e⟩
  by_cases e : T' = T
  · rw [e]; exact t1
  · obtain ⟨ps, e1, e2⟩ := g T' hT'
    exact ⟨ps, by rw [t2 T' e]; exact e1, e2⟩
end K0

set_option Elab.async false
set_option linter.all false
set_option maxRecDepth 100000
set_option maxHeartbeats 1000000
namespace K0
open PySem L2
abbrev NWi : List Str := ["value", "least", "most"]
abbrev NRo : List Str := ["value", "size"]
abbrev NWd : List Str := ["value"]
abbrev NIl : List Str := ["value"]
abbrev NIe : List Str := ["width", "value", "deep", "op", "size", "part"]
def rLenS (K : PySem.W.Frag) : List V → Hp → VK → Prop := fun xs H Q => ∃ p ys, xs = [.ref p] ∧ (SqL K H p ys ∨ SqT K H p ys) ∧ Q (.int ys.length) H
/-- the module's names -/
structure TxP (K : PySem.W.Frag) (mg : Str → Option Value) (pP pS : Addr) : Prop where
  mP : mg "PAIRS" = some (.ref pP)
  mS : mg "SINGLES" = some (.ref pS)
  tP : ∀ H, SqT K H pP ten
  tS : ∀ H, SqT K H pS [.str "not", .str "neg"]
  ll : ∃ t, mg "LAST_LABEL" = some (.int 999 t)
  lv : ∃ t, mg "LAST_VARIABLE" = some (.int 99 t)
  mb : ∃ t, mg "MOST_BLOCKS" = some (.int 40 t)
  mi : ∃ t, mg "MOST_ITEMS" = some (.int 60 t)
  md : ∃ t, mg "MOST_DEEP" = some (.int 20 t)
  mp : ∃ t, mg "MOST_PARAMS" = some (.int 6 t)
theorem big {n : Nat} (h : n ≤ 100000) : n < sizeLine := Nat.lt_of_le_of_lt h (by decide)
/-- a tuple's parts; none: it is no tuple -/
def TV (H : Hp) (v : V) : Option (List V) → Prop
  | some xs => ∃ a, v = .ref a ∧ H a = some (.tup xs)
  | none => v = .non ∨ (∃ b, v = .bl b) ∨ (∃ i, v = .int i) ∨ ∃ s, v = .str s
def hdE : Ed → Str
  | .t1 s => s
  | .t2 s _ => s
  | .t3 s _ _ => s
  | .t4 s _ _ _ => s
  | _ => ""
def argsE : Ed → List Ed
  | .t2 _ a => [a]
  | .t3 _ a b => [a, b]
  | .t4 _ a b c => [a, b, c]
  | _ => []
theorem ed_no {H : Hp} {e : Ed} {v : V} (h : EdAt H e v) (n : isT e = false) : TV H v none := by
  cases e with
  | non => exact .inl h
  | bl b => exact .inr (.inl ⟨b, h⟩)
  | int i => exact .inr (.inr (.inl ⟨i, h⟩))
  | str s => exact .inr (.inr (.inr ⟨s, h⟩))
  | t0 => cases n
  | t1 s => cases n
  | t2 s a => cases n
  | t3 s a b => cases n
  | t4 s a b c => cases n
/-- a tuple with a head -/
theorem ed_tup {H : Hp} {e : Ed} {v : V} (h : EdAt H e v) (n : isT e = true) : ∃ a us, v = .ref a ∧ H a = some (.tup us) ∧ us.length = lenT e ∧ (1 ≤ lenT e → ∃ vs, us = .str (hdE e) :: vs ∧ Paired (EdAt H) (argsE e) vs) := by
  cases e with
  | non => cases n
  | bl b => cases n
  | int i => cases n
  | str s => cases n
  | t0 => obtain ⟨a, e1, e2⟩ := h; exact ⟨a, _, e1, e2, rfl, fun z => absurd z (by decide)⟩
  | t1 s => obtain ⟨a, e1, e2⟩ := h; exact ⟨a, _, e1, e2, rfl, fun _ => ⟨[], rfl, .nil⟩⟩
  | t2 s x => obtain ⟨a, u, e1, e2, h1⟩ := h; exact ⟨a, _, e1, e2, rfl, fun _ => ⟨[u], rfl, .cons h1 .nil⟩⟩
  | t3 s x y => obtain ⟨a, u, u2, e1, e2, h1, h2⟩ := h; exact ⟨a, _, e1, e2, rfl, fun _ => ⟨[u, u2], rfl, .cons h1 (.cons h2 .nil)⟩⟩
  | t4 s x y z => obtain ⟨a, u, u2, u3, e1, e2, h1, h2, h3⟩ := h; exact ⟨a, _, e1, e2, rfl, fun _ => ⟨[u, u2, u3], rfl, .cons h1 (.cons h2 (.cons h3 .nil))⟩⟩
theorem len_args {e : Ed} (h : 2 ≤ lenT e) : (argsE e).length + 1 = lenT e ∧ isT e = true := by
  cases e with
  | t2 s a => exact ⟨rfl, rfl⟩
  | t3 s a b => exact ⟨rfl, rfl⟩
  | t4 s a b c => exact ⟨rfl, rfl⟩
  | _ => exact absurd h (by simp [lenT])
def bigE (W n : Nat) (s : Str) (as : List Ed) : Bool :=
  if s = "int" then decide (as.length = 1) && inI (as.headD .non) 0 (2 ^ W - 1) else if s = "var" then decide (as.length = 1) && inI (as.headD .non) 0 99
  else if s ∈ tenS then decide (as.length = 2) && as.all (isE W n) else if s ∈ singles then decide (as.length = 1) && as.all (isE W n) else false
theorem dis_ten : ∀ s ∈ tenS, s ∉ singles ∧ s ≠ "int" ∧ s ≠ "var" := by decide +kernel
theorem isE_big (W n : Nat) {e : Ed} (h : 2 ≤ lenT e) : isE W (n + 1) e = bigE W n (hdE e) (argsE e) := by
  cases e with
  | t2 s a =>
    show (if s = "int" then inI a 0 (2 ^ W - 1) else if s = "var" then inI a 0 99 else decide (s ∈ singles) && isE W n a) = bigE W n s [a]
    unfold bigE
    by_cases h1 : s = "int"
    · rw [if_pos h1, if_pos h1]; rfl
    · rw [if_neg h1, if_neg h1]
      by_cases h2 : s = "var"
      · rw [if_pos h2, if_pos h2]; rfl
      · rw [if_neg h2, if_neg h2]
        by_cases h3 : s ∈ tenS
        · rw [if_pos h3, decide_eq_false (dis_ten s h3).1]; rfl
        · rw [if_neg h3]
          by_cases h4 : s ∈ singles
          · rw [if_pos h4, decide_eq_true h4]
            show (true && isE W n a) = (true && (isE W n a && true))
            rw [Bool.and_true]
          · rw [if_neg h4, decide_eq_false h4]; rfl
  | t3 s a b =>
    show (decide (s ∈ tenS) && (isE W n a && isE W n b)) = bigE W n s [a, b]
    unfold bigE
    by_cases h3 : s ∈ tenS
    · obtain ⟨d1, d2, d3⟩ := dis_ten s h3
      rw [if_neg d2, if_neg d3, if_pos h3, decide_eq_true h3]
      show (true && (isE W n a && isE W n b)) = (true && (isE W n a && (isE W n b && true)))
      rw [Bool.and_true]
    · rw [decide_eq_false h3, if_neg h3]
      by_cases h1 : s = "int"
      · rw [if_pos h1]; rfl
      · rw [if_neg h1]
        by_cases h2 : s = "var"
        · rw [if_pos h2]; rfl
        · rw [if_neg h2]
          split <;> rfl
  | t4 s a b c =>
    show false = bigE W n s [a, b, c]
    unfold bigE
    split
    · rfl
    · split
      · rfl
      · split
        · rfl
        · split <;> rfl
  | _ => exact absurd h (by simp [lenT])
theorem isE_short (W n : Nat) {e : Ed} (h : lenT e < 2) : isE W (n + 1) e = false := by
  cases e with
  | t2 s a => exact absurd h (by simp [lenT])
  | t3 s a b => exact absurd h (by simp [lenT])
  | _ => rfl
theorem bigE_int (W n : Nat) (as : List Ed) : bigE W n "int" as = (decide (as.length = 1) && inI (as.headD .non) 0 (2 ^ W - 1)) := rfl
theorem bigE_var (W n : Nat) (as : List Ed) : bigE W n "var" as = (decide (as.length = 1) && inI (as.headD .non) 0 99) := rfl
theorem bigE_ten (W n : Nat) {s : Str} (as : List Ed) (h : s ∈ tenS) : bigE W n s as = (decide (as.length = 2) && as.all (isE W n)) := by
  obtain ⟨d1, d2, d3⟩ := dis_ten s h
  unfold bigE
  rw [if_neg d2, if_neg d3, if_pos h]
theorem bigE_sin (W n : Nat) {s : Str} (as : List Ed) (h : s ∈ singles) (n1 : ¬ s = "int") (n2 : ¬ s = "var") (n3 : s ∉ tenS) : bigE W n s as = (decide (as.length = 1) && as.all (isE W n)) := by
  unfold bigE
  rw [if_neg n1, if_neg n2, if_neg n3, if_pos h]
theorem bigE_no (W n : Nat) {s : Str} (as : List Ed) (h : s ∉ singles) (n1 : ¬ s = "int") (n2 : ¬ s = "var") (n3 : s ∉ tenS) : bigE W n s as = false := by
  unfold bigE
  rw [if_neg n1, if_neg n2, if_neg n3, if_neg h]
theorem inV_map (s : Str) : ∀ l : List Str, inV (.str s) (l.map V.str) = decide (s ∈ l)
  | [] => rfl
  | x :: l => by
    show (eqV (.str x) (.str s) || inV (.str s) (l.map V.str)) = _
    rw [inV_map s l]
    by_cases e : x = s
    · subst e
      rw [show eqV (.str x) (.str x) = true from by simp [eqV], decide_eq_true (List.mem_cons_self ..)]
      rfl
    · rw [show eqV (.str x) (.str s) = false from by simp [eqV, e], Bool.false_or]
      exact decide_eq_decide.mpr ⟨fun h => List.mem_cons_of_mem _ h, fun h => by
        rcases List.mem_cons.mp h with h | h
        · exact absurd h.symm e
        · exact h⟩
theorem in_two (s : Str) : inV (.str s) [.str "not", .str "neg"] = decide (s ∈ (["not", "neg"] : List Str)) := inV_map s ["not", "neg"]
theorem in_ten (s : Str) : inV (.str s) ten = decide (s ∈ tenS) := by
  rw [show ten = tenS.map V.str from rfl]
  exact inV_map s tenS
def spWi : Sp := fun vs H Q _ => ∃ (v : V) (a b : Int) (e : Ed), vs = [v, .int a, .int b] ∧ EdAt H e v ∧ Q (.bl (inI e a b)) H
def rowV (n : Int) : Option (List V) → Bool
  | some xs => decide ((xs.length : Int) = n)
  | none => false
def spRo : Sp := fun vs H Q _ => ∃ (v : V) (n : Int) (o : Option (List V)), vs = [v, .int n] ∧ TV H v o ∧ Q (.bl (rowV n o)) H
def spWd : Sp := fun vs H Q _ => ∃ (v : V) (e : Ed), vs = [v] ∧ EdAt H e v ∧ Q (.bl (inI e 1 16)) H
def spIl : Sp := fun vs H Q _ => ∃ (v : V) (e : Ed), vs = [v] ∧ EdAt H e v ∧ Q (.bl (inI e 0 999)) H
def spIE (Ts : List Addr) : Nat → Sp
  | 0 => fun _ _ _ _ => False
  | n + 1 => fun vs H Q _ => ∃ (v : V) (e : Ed) (W : Nat), vs = [.int (W : Int), v, .int (n : Int)] ∧ EdAt H e v ∧ W ≤ 16 ∧ Gt Ts H ∧ ∀ H', KG Ts H H' → Gt Ts H' → Q (.bl (isE W n e)) H'
section
variable {P : Program} {w : World} {K : PySem.W.Frag} {mg : Str → Option Value} {base : Heap}
theorem scWi : FnScope NWi ["value", "least", "most"] (defScope sWi) := ⟨rfl, rfl, rfl, by decide +kernel, rfl, by decide +kernel, by decide +kernel⟩
theorem scRo : FnScope NRo ["value", "size"] (defScope sRo) := ⟨rfl, rfl, rfl, by decide +kernel, rfl, by decide +kernel, by decide +kernel⟩
theorem scWd : FnScope NWd ["value"] (defScope sWd) := ⟨rfl, rfl, rfl, by decide +kernel, rfl, by decide +kernel, by decide +kernel⟩
theorem scIl : FnScope NIl ["value"] (defScope sIsL) := ⟨rfl, rfl, rfl, by decide +kernel, rfl, by decide +kernel, by decide +kernel⟩
theorem scIe : FnScope NIe ["width", "value", "deep"] (defScope sIsE) := ⟨rfl, rfl, rfl, by decide +kernel, rfl, by decide +kernel, by decide +kernel⟩
theorem scTop : FnScope ["w"] ["w"] (defScope sTop) := ⟨rfl, rfl, rfl, by decide +kernel, rfl, by decide +kernel, by decide +kernel⟩
theorem ok_wi {f : Addr} {fd : FuncData} (F : Fun K "is_within" "is_within" sWi f fd) (m_type : mg "type" = none) (m_int : mg "int" = none) : FnOk P w K mg base CX0 1 f fd ["value", "least", "most"] spWi := by
  refine F.ok scWi (fun vs H Q E h => ?_) (fun cdv A outer s H vs Q E hr h => ?_)
  · obtain ⟨v, a, b, e, rfl, _⟩ := h
    rfl
  · obtain ⟨v, a, b, e, rfl, he, q⟩ := h
    have nd := scWi.nd
    refine ⟨_, (pss_one (ps_ret (pe_and (pe_cmpR op_isTyB (pe_callTy (T := "type") (r := rTyp K) call_type1 (by rfl) m_type (by decide +kernel) (pa_cons (pv 0) pa_nil)) (pe_bltn (v := .ty "int") (by rfl) m_int (by decide +kernel) rfl) (nomark _)) (pe_one (pe_chain op_le op_le (pv 1) (pv 0) (pv 2)))))), ?_⟩
    by_cases hi : ∃ i, e = .int i
    · obtain ⟨i, rfl⟩ := hi
      obtain rfl : v = .int i := he
      refine ⟨_, rfl, _, _, rfl, .int _, _, _, rfl, rfl, _, rfl, ?_⟩
      refine iteT ⟨_, rfl, _, rfl, _, _, rfl, rfl, _, rfl, ?_⟩
      have q : Q (.bl (decide (a ≤ i) && decide (i ≤ b))) H := q
      cases h1 : decide (a ≤ i) with
      | false =>
        rw [h1] at q
        exact iteF q
      | true =>
        rw [h1, Bool.true_and] at q
        exact iteT ⟨_, rfl, _, _, rfl, rfl, q⟩
    · have ei : inI e a b = false := by
        cases e <;> first | rfl | exact absurd ⟨_, rfl⟩ hi
      rw [ei] at q
      cases ht : isT e with
      | true =>
        obtain ⟨ta, us, rfl, h, _⟩ := ed_tup he ht
        exact ⟨_, rfl, _, _, rfl, .tup (.of h), _, _, rfl, rfl, _, rfl, iteF q⟩
      | false =>
        rcases ed_no he ht with rfl | ⟨b, rfl⟩ | ⟨i, rfl⟩ | ⟨s, rfl⟩
        · exact ⟨_, rfl, _, _, rfl, .non, _, _, rfl, rfl, _, rfl, iteF q⟩
        · exact ⟨_, rfl, _, _, rfl, .bl _, _, _, rfl, rfl, _, rfl, iteF q⟩
        · cases e with
          | int j => exact absurd ⟨_, rfl⟩ hi
          | non => cases he
          | bl _ => cases he
          | str _ => cases he
          | _ => cases ht
        · exact ⟨_, rfl, _, _, rfl, .str _, _, _, rfl, rfl, _, rfl, iteF q⟩
theorem ok_ro {f : Addr} {fd : FuncData} (F : Fun K "is_row" "is_row" sRo f fd) (m_type : mg "type" = none) (m_tuple : mg "tuple" = none) (m_len : mg "len" = none) : FnOk P w K mg base CX0 1 f fd ["value", "size"] spRo := by
  refine F.ok scRo (fun vs H Q E h => ?_) (fun cdv A outer s H vs Q E hr h => ?_)
  · obtain ⟨v, n, b, rfl, _⟩ := h
    rfl
  · obtain ⟨v, n, b, rfl, hk, q⟩ := h
    have nd := scRo.nd
    refine ⟨_, (pss_one (ps_ret (pe_and (pe_cmpR op_isTyB (pe_callTy (T := "type") (r := rTyp K) call_type1 (by rfl) m_type (by decide +kernel) (pa_cons (pv 0) pa_nil)) (pe_bltn (v := .ty "tuple") (by rfl) m_tuple (by decide +kernel) rfl) (nomark _)) (pe_one (pe_cmpR op_eq (pe_callB (r := rLenS K) call_len_seq (by rfl) m_len PySem.boot_len (pa_cons (pv 0) pa_nil)) (pv 1) (nomark _)))))), ?_⟩
    cases b with
    | none =>
      rcases hk with rfl | ⟨b, rfl⟩ | ⟨i, rfl⟩ | ⟨s, rfl⟩
      · exact ⟨_, rfl, _, _, rfl, .non, _, _, rfl, rfl, _, rfl, iteF q⟩
      · exact ⟨_, rfl, _, _, rfl, .bl _, _, _, rfl, rfl, _, rfl, iteF q⟩
      · exact ⟨_, rfl, _, _, rfl, .int _, _, _, rfl, rfl, _, rfl, iteF q⟩
      · exact ⟨_, rfl, _, _, rfl, .str _, _, _, rfl, rfl, _, rfl, iteF q⟩
    | some xs =>
      obtain ⟨a, rfl, h⟩ := hk
      have ee : decide (V.int (xs.length : Int) = V.int n) = decide ((xs.length : Int) = n) := decide_eq_decide.mpr ⟨fun z => V.int.inj z, fun z => by rw [z]⟩
      refine ⟨_, rfl, _, _, rfl, .tup (.of h), _, _, rfl, rfl, _, rfl, iteT ⟨_, rfl, a, _, rfl, .inr (.of h), _, rfl, rfl, ?_⟩⟩
      rw [ee]
      exact q
theorem ok_wd {f : Addr} {fd : FuncData} (F : Fun K "is_width" "is_width" sWd f fd) (GW : Got P w K mg base 1 "is_within" ["value", "least", "most"] spWi) : FnOk P w K mg base CX0 2 f fd ["value"] spWd := by
  obtain ⟨fWI, fdWI, GWI, mWI, kWI, bWI⟩ := GW.ex
  refine F.ok scWd (fun vs H Q E h => ?_) (fun cdv A outer s H vs Q E hr h => ?_)
  · obtain ⟨v, e, rfl, _⟩ := h
    rfl
  · obtain ⟨v, e, rfl, he, q⟩ := h
    have nd := scWd.nd
    have hr1 : Room 1 _ := hr
    refine ⟨_, (pss_one (ps_ret (pe_call GWI hr1 (by rfl) mWI kWI bWI .nil pass0 (pa_cons (pv 0) (pa_cons pe_int (pa_cons pe_int pa_nil)))))), ?_⟩
    exact ⟨_, rfl, v, 1, 16, e, rfl, he, q⟩
theorem ok_il {f : Addr} {fd : FuncData} (F : Fun K "_is_label" "_is_label" sIsL f fd) {pP pS : Addr} (TX : TxP K mg pP pS) (GW : Got P w K mg base 1 "is_within" ["value", "least", "most"] spWi) : FnOk P w K mg base CX0 2 f fd ["value"] spIl := by
  obtain ⟨fWI, fdWI, GWI, mWI, kWI, bWI⟩ := GW.ex
  refine F.ok scIl (fun vs H Q E h => ?_) (fun cdv A outer s H vs Q E hr h => ?_)
  · obtain ⟨v, e, rfl, _⟩ := h
    rfl
  · obtain ⟨v, e, rfl, he, q⟩ := h
    have nd := scIl.nd
    have hr1 : Room 1 _ := hr
    obtain ⟨tLL, mLL⟩ := TX.ll
    refine ⟨_, (pss_one (ps_ret (pe_call GWI hr1 (by rfl) mWI kWI bWI .nil pass0 (pa_cons (pv 0) (pa_cons pe_int (pa_cons (pe_glob (v := .int 999) (by rfl) mLL ⟨_, rfl⟩) pa_nil)))))), ?_⟩
    exact ⟨_, rfl, v, 0, 999, e, rfl, he, q⟩
theorem prd_get' {α : Type} {R : α → V → Prop} : ∀ {as : List α} {xs : List V} {i : Nat} {x : V}, Paired R as xs → xs[i]? = some x → ∃ a, as[i]? = some a ∧ R a x
  | _, _, 0, _, .cons h _, e => ⟨_, rfl, by rw [← Option.some.inj e]; exact h⟩
  | _, _, i + 1, _, .cons _ p, e => by
    obtain ⟨a, e1, e2⟩ := prd_get' p (i := i) e
    exact ⟨a, e1, e2⟩
  | _, _, 0, _, .nil, e => by cases e
  | _, _, i + 1, _, .nil, e => by cases e
theorem all_parts {n W : Nat} {Ts : List Addr} {Tb ta : Addr} (hTb : Tb ∈ Ts) {H : Hp} {vs : List V} {s0 : Str} {as : List Ed} (hg : Gt Ts H) (hta : H ta = some (.tup (.str s0 :: vs))) (pv : Paired (EdAt H) as vs) (hW : W ≤ 16) {y3 y4 y5 : Option V} {Q : VK}
    (q : ∀ H', KG Ts H H' → Gt Ts H' → Q (.bl (as.all (isE W n))) H') : GxA.tGen Tb true (iTup K (tSl (rSlA K) (tVar 1) (tPart (tC (V.int 1))) tNoPart)) (gName 5) tYes (tCall (spIE Ts (n + 1)) [] E0 (tCons (tVar 0) (tCons (tVar 5) (tCons (tOp (rI0 fun i j => V.int (i - j)) (tVar 2) (tC (V.int 1))) tNil)))) [5] [some (.int (W : Int)), some (.ref ta), some (.int ((n + 1 : Nat) : Int)), y3, y4, y5] H Q := by
  have ec : cutV (.str s0 :: vs) (some 1) none = vs := by
    unfold cutV
    rw [HT.sIx_none, show HT.sIx (V.str s0 :: vs).length 0 (some 1) = 1 from by rw [show (1 : Int) = ((1 : Nat) : Int) from rfl, HT.sIx_nat, List.length_cons]; omega, List.drop_one, List.tail_cons, List.length_cons]
    exact List.take_length
  have en : ¬ (HT.sIx (V.str s0 :: vs).length 0 (some 1) = 0 ∧ HT.sIx (V.str s0 :: vs).length (V.str s0 :: vs).length none = (V.str s0 :: vs).length) := fun z => by
    have z1 := z.1
    rw [show (1 : Int) = ((1 : Nat) : Int) from rfl, HT.sIx_nat, List.length_cons] at z1
    omega
  refine ⟨_, rfl, _, rfl, ta, _, rfl, .of hta, fun z => absurd z en, fun _ p hp => ?_⟩
  rw [ec]
  have s1 := same_new (o := .tup vs) hp
  have hp1 : (upd H p (.tup vs)) p = some (.tup vs) := upd_same
  generalize upd H p (.tup vs) = H1 at s1 hp1 ⊢
  refine ⟨p, rfl, ⟨_, .of hp1⟩, hg.same s1 Tb hTb, fun H2 tb2 => ?_⟩
  obtain ⟨g2, k2⟩ := gt_tabbed (hg.same s1) hTb tb2
  have k02 : KG Ts H H2 := (KG.of s1).trans k2
  have hp2 := KG.tups (hg.same s1) k2 _ _ hp1
  have pv2 := L2.Paired.mapP pv fun _ _ z => EdAt.mono (KG.tups hg k02) z
  have lv := pv.length
  refine GxA.gen_it (walk_tup (xs := vs)) (fun i H' => KG Ts H2 H' ∧ Gt Ts H' ∧ (as.take i).all (isE W n) = true) ⟨KG.refl _ _, g2, rfl⟩ ?_ ?_ ?_
  · rintro i H' _ ⟨k', _⟩
    exact .of (KG.tups g2 k' _ _ hp2)
  · rintro i x H5 H6 hi ⟨k5, g5, al5⟩ ⟨rfl, hx⟩
    obtain ⟨a, ha, hat⟩ := prd_get' pv2 hx
    have etk : as.take (i + 1) = as.take i ++ [a] := by
      rw [List.take_add_one, ha]
      rfl
    refine ⟨rfl, tYes_go ⟨_, rfl, _, rfl, _, rfl, _, _, rfl, rfl, x, a, W, ?_, EdAt.mono (KG.tups g2 k5) hat, hW, g5, fun H7 k7 g7 => ⟨_, rfl, ?_⟩⟩⟩
    · exact congrArg (fun z : Int => [V.int (W : Int), x, V.int z]) (show ((n + 1 : Nat) : Int) - 1 = (n : Int) by omega)
    · cases ea : isE W n a with
      | true =>
        refine ⟨k5.trans k7, g7, ?_⟩
        rw [etk, List.all_append, al5]
        simp [ea]
      | false =>
        have e : as.all (isE W n) = false := by
          rw [List.all_eq_false]
          exact ⟨a, List.mem_of_getElem? ha, by simp [ea]⟩
        have := q H7 ((k02.trans k5).trans k7) g7
        rw [e] at this
        exact this
  · rintro H5 ⟨k5, g5, al5⟩
    rw [← lv, List.take_length] at al5
    have := q H5 (k02.trans k5) g5
    rw [al5] at this
    exact this
theorem ok_ie {f cI Tb pP pS : Addr} {fd : FuncData} (F : GxA.FunC K "is_expression" "is_expression" sIsE f cI fd) (kf : PySem.W.keepIn K (.ref f) = true) (m_len : mg "len" = none) (m_type : mg "type" = none) (m_tuple : mg "tuple" = none) (m_all : mg "all" = none) (TB : GxR.TabB base mg cI Tb)
    (mIE : mg "is_expression" = some (.ref f)) (TX : TxP K mg pP pS) (bIE : Binds K fd ["width", "value", "deep"] [])
    (GW : Got P w K mg base 1 "is_within" ["value", "least", "most"] spWi) (GT : Got P w K mg base 1 "top" ["w"] spTop) (Ts : List Addr) (hTb : Tb ∈ Ts) : ∀ n : Nat, FnOk P w K mg base CX0 (2 + 2 * n) f fd ["width", "value", "deep"] (spIE Ts n) := by
  obtain ⟨fWI, fdWI, GWI, mWI, kWI, bWI⟩ := GW.ex
  obtain ⟨fTO, fdTO, GTO, mTO, kTO, bTO⟩ := GT.ex
  obtain ⟨tLV, mLV⟩ := TX.lv
  have mP := TX.mP
  have mS := TX.mS
  have kIE := kf
  intro n
  induction n with
  | zero =>
    exact F.ok (k := 1) scIe (fun vs H Q E h => h.elim) (fun A outer s H vs Q E hr h => h.elim)
  | succ n ih =>
    have e0 : 2 + 2 * (n + 1) = (2 + 2 * n + 1) + 1 := by omega
    rw [e0]
    refine F.ok scIe (fun vs H Q E h => ?_) (fun A outer s H vs Q E hr h => ?_)
    · obtain ⟨v, e, W, rfl, _⟩ := h
      rfl
    · obtain ⟨v, e, W, rfl, he, hW, hg, q⟩ := h
      have nd := scIe.nd
      have hr1 : Room 1 _ := hr.mono (by omega)
      have hrG : Room (2 + 2 * n + 1) _ := hr
      refine ⟨_, (pss_cons (ps_if (PW.pt (pw_or (pt_cmpR op_lt (pv 2) pe_int (nomark _)) (pw_or (pt_cmpR op_notTyB (pe_callTy (T := "type") (r := rTyp K) call_type1 (by rfl) m_type (by decide +kernel) (pa_cons (pv 1) pa_nil)) (pe_bltn (v := .ty "tuple") (by rfl) m_tuple (by decide +kernel) rfl) (nomark _)) (pw_or1 (pt_cmpR op_lt (pe_callB (r := rLenS K) call_len_seq (by rfl) m_len PySem.boot_len (pa_cons (pv 1) pa_nil)) pe_int (nomark _)))))) (pss_one (ps_ret pe_bl)) pss_nil)
 (pss_cons (ps_set (i := 3) nd rfl (.inl rfl) (pe_ix (r := rIxT K) ix_tup (pv 1) pe_int (fun _ _ => rfl)))
 (pss_cons (ps_if (pt_cmpR op_eq (pv 3) pe_str (nomark _)) (pss_one (ps_ret (pe_and (pe_cmpR op_eq (pe_callB (r := rLenS K) call_len_seq (by rfl) m_len PySem.boot_len (pa_cons (pv 1) pa_nil)) pe_int (nomark _)) (pe_one (pe_call GWI hr1 (by rfl) mWI kWI bWI .nil pass0 (pa_cons (pe_ix (r := rIxT K) ix_tup (pv 1) pe_int (fun _ _ => rfl)) (pa_cons pe_int (pa_cons (pe_call GTO hr1 (by rfl) mTO kTO bTO .nil pass0 (pa_cons (pv 0) pa_nil)) pa_nil)))))))) pss_nil)
 (pss_cons (ps_if (pt_cmpR op_eq (pv 3) pe_str (nomark _)) (pss_one (ps_ret (pe_and (pe_cmpR op_eq (pe_callB (r := rLenS K) call_len_seq (by rfl) m_len PySem.boot_len (pa_cons (pv 1) pa_nil)) pe_int (nomark _)) (pe_one (pe_call GWI hr1 (by rfl) mWI kWI bWI .nil pass0 (pa_cons (pe_ix (r := rIxT K) ix_tup (pv 1) pe_int (fun _ _ => rfl)) (pa_cons pe_int (pa_cons (pe_glob (v := .int 99) (by rfl) mLV ⟨_, rfl⟩) pa_nil)))))))) pss_nil)
 (pss_cons (ps_if (pt_cmpR (r := rIn K false) op_in_seq (pv 3) (pe_glob (v := .ref pP) (by rfl) mP rfl) rfl) (pss_one (ps_set (i := 4) nd rfl (.inl rfl) pe_int)) (pss_one (ps_if (PW.pt (pw_or (pt_cmpR op_eq (pv 3) pe_str (nomark _)) (pw_or1 (pt_cmpR (r := rIn K false) op_in_seq (pv 3) (pe_glob (v := .ref pS) (by rfl) mS rfl) rfl)))) (pss_one (ps_set (i := 4) nd rfl (.inl rfl) pe_int)) (pss_one (ps_ret pe_bl)))))
 (pss_one (ps_ret (pe_and (pe_cmpR op_eq (pe_callB (r := rLenS K) call_len_seq (by rfl) m_len PySem.boot_len (pa_cons (pv 1) pa_nil)) (pv 4) (nomark _)) (pe_one (GxA.pe_allG (k := 2 + 2 * n) (own := [("part", 5)]) (g := (gName 5)) (tt := tYes) hrG rfl (by rfl) m_all TB rfl nd (GxA.genOk_by (N := NIe) (sc := defScope sIsE) (by decide +kernel)) (pi_tup (pe_slice (r := rSlA K) sl_tupA (pv 1) (po_some pe_int) po_none)) (fun _ _ _ _ _ _ => (pg_name (i := 5) nd rfl (.inl rfl))) (fun _ _ _ _ _ _ _ => pts_nil) (fun _ _ _ _ _ _ hrE => (pe_call ih hrE (by rfl) mIE kIE bIE .nil pass0 (pa_cons (pv 0) (pa_cons (pv 5) (pa_cons (pe_op op_sub (pv 2) pe_int) pa_nil))))))))))))))), ?_⟩
      refine ⟨_, rfl, _, _, rfl, rfl, _, rfl, ?_⟩
      cases n with
      | zero => exact iteT (iteT (q H (KG.refl _ _) hg))
      | succ n =>
      rw [show decide (((n + 1 : Nat) : Int) < 1) = false from decide_eq_false (by omega)]
      refine iteF ?_
      cases ht : isT e with
      | false =>
        rw [isE_t W _ ht] at q
        have q0 := q H (KG.refl _ _) hg
        rcases ed_no he ht with rfl | ⟨b, rfl⟩ | ⟨i, rfl⟩ | ⟨s, rfl⟩
        · exact ⟨_, rfl, _, _, rfl, .non, _, _, rfl, rfl, _, rfl, iteT (iteT q0)⟩
        · exact ⟨_, rfl, _, _, rfl, .bl _, _, _, rfl, rfl, _, rfl, iteT (iteT q0)⟩
        · exact ⟨_, rfl, _, _, rfl, .int _, _, _, rfl, rfl, _, rfl, iteT (iteT q0)⟩
        · exact ⟨_, rfl, _, _, rfl, .str _, _, _, rfl, rfl, _, rfl, iteT (iteT q0)⟩
      | true =>
        obtain ⟨ta, us, rfl, hta, lu, hus⟩ := ed_tup he ht
        refine ⟨_, rfl, _, _, rfl, .tup (.of hta), _, _, rfl, rfl, _, rfl, iteF ⟨_, rfl, ta, us, rfl, .inr (.of hta), _, _, rfl, rfl, _, rfl, ?_⟩⟩
        by_cases h2 : lenT e < 2
        · rw [isE_short W n h2] at q
          rw [decide_eq_true (show ((us.length : Nat) : Int) < 2 by omega)]
          exact iteT (q H (KG.refl _ _) hg)
        have h2' : 2 ≤ lenT e := by omega
        rw [decide_eq_false (show ¬ ((us.length : Nat) : Int) < 2 by omega)]
        refine iteF ?_
        obtain ⟨vs, rfl, pv⟩ := hus (by omega)
        have lv := pv.length
        obtain ⟨la, _⟩ := len_args h2'
        rw [isE_big W n h2'] at q
        generalize argsE e = as at *
        generalize hdE e = s0 at *
        refine ⟨_, rfl, ta, _, _, _, rfl, rfl, .of hta, atI_nat (j := 0) rfl, ?_⟩
        refine ⟨_, rfl, rfl, _, rfl, ?_⟩
        have len2 : ∀ k : Nat, decide (V.int (((V.str s0 :: vs).length : Nat) : Int) = V.int ((k + 1 : Nat) : Int)) = decide (as.length = k) := fun k => decide_eq_decide.mpr ⟨fun z => by have := V.int.inj z; rw [List.length_cons] at this; omega, fun z => by rw [List.length_cons, ← lv, z]⟩
        by_cases n1 : s0 = "int"
        · subst n1
          rw [dT]
          rw [bigE_int] at q
          refine iteT ⟨_, rfl, ta, _, rfl, .inr (.of hta), rfl, _, rfl, ?_⟩
          rw [show V.int 2 = V.int ((1 + 1 : Nat) : Int) from rfl, len2 1]
          by_cases h1 : as.length = 1
          · rw [decide_eq_true h1] at q ⊢
            match as, h1, pv with
            | [a0], _, .cons (b := u0) h0 .nil =>
              exact iteT ⟨_, rfl, ta, _, _, _, rfl, rfl, .of hta, atI_nat (j := 1) rfl, _, rfl, W, rfl, hW, u0, 0, _, a0, rfl, h0, q H (KG.refl _ _) hg⟩
          · rw [decide_eq_false h1] at q ⊢
            exact iteF (q H (KG.refl _ _) hg)
        rw [dS n1]
        refine iteF ⟨_, rfl, rfl, _, rfl, ?_⟩
        by_cases n2 : s0 = "var"
        · subst n2
          rw [dT]
          rw [bigE_var] at q
          refine iteT ⟨_, rfl, ta, _, rfl, .inr (.of hta), rfl, _, rfl, ?_⟩
          rw [show V.int 2 = V.int ((1 + 1 : Nat) : Int) from rfl, len2 1]
          by_cases h1 : as.length = 1
          · rw [decide_eq_true h1] at q ⊢
            match as, h1, pv with
            | [a0], _, .cons (b := u0) h0 .nil =>
              exact iteT ⟨_, rfl, ta, _, _, _, rfl, rfl, .of hta, atI_nat (j := 1) rfl, u0, 0, _, a0, rfl, h0, q H (KG.refl _ _) hg⟩
          · rw [decide_eq_false h1] at q ⊢
            exact iteF (q H (KG.refl _ _) hg)
        rw [dS n2]
        refine iteF ⟨_, rfl, pP, _, rfl, .inr (TX.tP _), rfl, by decide +kernel, _, rfl, ?_⟩
        show if inV (.str s0) ten = true then _ else _
        rw [in_ten]
        by_cases n3 : s0 ∈ tenS
        · rw [decide_eq_true n3]
          refine iteT ⟨_, rfl, ta, _, rfl, .inr (.of hta), _, rfl, rfl, _, rfl, ?_⟩
          rw [bigE_ten W n as n3] at q
          rw [show V.int 3 = V.int ((2 + 1 : Nat) : Int) from rfl, len2 2]
          by_cases h1 : as.length = 2
          · rw [decide_eq_true h1] at q ⊢
            refine iteT (all_parts hTb hg hta pv hW q)
          · rw [decide_eq_false h1] at q ⊢
            exact iteF (q H (KG.refl _ _) hg)
        rw [decide_eq_false n3]
        refine iteF ?_
        refine ⟨_, rfl, rfl, _, rfl, ?_⟩
        by_cases a1 : s0 = "load"
        · have n4 : s0 ∈ singles := by rw [a1]; decide
          rw [show decide (V.str s0 = V.str "load") = true from decide_eq_true (by rw [a1])]
          refine iteT (iteT ⟨_, rfl, ta, _, rfl, .inr (.of hta), _, rfl, rfl, _, rfl, ?_⟩)
          rw [bigE_sin W n as n4 n1 n2 n3] at q
          rw [show V.int 2 = V.int ((1 + 1 : Nat) : Int) from rfl, len2 1]
          by_cases h1 : as.length = 1
          · rw [decide_eq_true h1] at q ⊢
            refine iteT (all_parts hTb hg hta pv hW q)
          · rw [decide_eq_false h1] at q ⊢
            exact iteF (q H (KG.refl _ _) hg)
        rw [dS a1]
        refine iteF ⟨_, rfl, pS, _, rfl, .inr (TX.tS _), rfl, by decide +kernel, _, rfl, ?_⟩
        show if inV (.str s0) [.str "not", .str "neg"] = true then _ else _
        rw [in_two]
        by_cases a2 : s0 ∈ (["not", "neg"] : List Str)
        · have n4 : s0 ∈ singles := List.mem_cons_of_mem _ a2
          rw [decide_eq_true a2]
          refine iteT ⟨_, rfl, ta, _, rfl, .inr (.of hta), _, rfl, rfl, _, rfl, ?_⟩
          rw [bigE_sin W n as n4 n1 n2 n3] at q
          rw [show V.int 2 = V.int ((1 + 1 : Nat) : Int) from rfl, len2 1]
          by_cases h1 : as.length = 1
          · rw [decide_eq_true h1] at q ⊢
            refine iteT (all_parts hTb hg hta pv hW q)
          · rw [decide_eq_false h1] at q ⊢
            exact iteF (q H (KG.refl _ _) hg)
        · have n4 : s0 ∉ singles := fun h => by
            rcases List.mem_cons.mp h with h | h
            · exact a1 h
            · exact a2 h
          rw [decide_eq_false a2]
          rw [bigE_no W n as n4 n1 n2 n3] at q
          exact iteF (q H (KG.refl _ _) hg)
end
end K0

set_option Elab.async false
set_option linter.all false
set_option maxRecDepth 100000
set_option maxHeartbeats 1000000
namespace K0
open PySem L2
abbrev NIs : List Str := ["width", "value"]
abbrev NIn : List Str := ["width", "value"]
abbrev NSu : List Str := ["block", "end"]
def rowB (e : Ed) (n : Nat) : Bool := isT e && decide (lenT e = n)
theorem ro_ed {H : Hp} {e : Ed} {v : V} (h : EdAt H e v) : ∃ o, TV H v o ∧ ∀ (n : Nat) (m : Int), m = n → rowV m o = rowB e n := by
  cases ht : isT e with
  | false => exact ⟨none, ed_no h ht, fun n m _ => by unfold rowB; rw [ht]; rfl⟩
  | true =>
    obtain ⟨a, us, rfl, e1, e2, _⟩ := ed_tup h ht
    refine ⟨some us, ⟨a, rfl, e1⟩, fun n m hm => ?_⟩
    subst hm
    unfold rowB
    rw [ht, Bool.true_and]
    exact decide_eq_decide.mpr ⟨fun z => by omega, fun z => by omega⟩
def endB (W : Nat) : Ed → Bool
  | .t2 s a => if s = "go" then inI a 0 999 else decide (s = "return") && isE W 20 a
  | .t4 s a b c => decide (s = "if") && (isE W 20 a && (inI b 0 999 && inI c 0 999))
  | _ => false
theorem st_no (W : Nat) (e : Ed) (h3 : rowB e 3 = false) (h2 : rowB e 2 = false) : stB W e = false := by
  cases e with
  | t2 _ _ => cases h2
  | t3 _ _ _ => cases h3
  | _ => rfl
theorem end_no (W : Nat) (e : Ed) (h3 : rowB e 4 = false) (h2 : rowB e 2 = false) : endB W e = false := by
  cases e with
  | t2 _ _ => cases h2
  | t4 _ _ _ _ => cases h3
  | _ => rfl
def spIs (Ts : List Addr) : Sp := fun vs H Q _ => ∃ (v : V) (e : Ed) (W : Nat), vs = [.int (W : Int), v] ∧ EdAt H e v ∧ W ≤ 16 ∧ Gt Ts H ∧ ∀ H', KG Ts H H' → Gt Ts H' → Q (.bl (stB W e)) H'
def spIn (Ts : List Addr) : Sp := fun vs H Q _ => ∃ (v : V) (e : Ed) (W : Nat), vs = [.int (W : Int), v] ∧ EdAt H e v ∧ W ≤ 16 ∧ Gt Ts H ∧ ∀ H', KG Ts H H' → Gt Ts H' → Q (.bl (endB W e)) H'
section
variable {P : Program} {w : World} {K : PySem.W.Frag} {mg : Str → Option Value} {base : Heap}
theorem scIs : FnScope NIs ["width", "value"] (defScope sIsS) := ⟨rfl, rfl, rfl, by decide +kernel, rfl, by decide +kernel, by decide +kernel⟩
theorem scIn : FnScope NIn ["width", "value"] (defScope sIsEnd) := ⟨rfl, rfl, rfl, by decide +kernel, rfl, by decide +kernel, by decide +kernel⟩
theorem scSu : FnScope NSu ["block"] (defScope sSucc) := ⟨rfl, rfl, rfl, by decide +kernel, rfl, by decide +kernel, by decide +kernel⟩
theorem ok_is {f pP pS : Addr} {fd : FuncData} (F : Fun K "_is_statement" "_is_statement" sIsS f fd) (TX : TxP K mg pP pS) (Ts : List Addr)
    (GW : Got P w K mg base 1 "is_within" ["value", "least", "most"] spWi) (GR : Got P w K mg base 1 "is_row" ["value", "size"] spRo) (GI : Got P w K mg base 44 "is_expression" ["width", "value", "deep"] (spIE Ts 21)) : FnOk P w K mg base CX0 45 f fd ["width", "value"] (spIs Ts) := by
  obtain ⟨fWI, fdWI, GWI, mWI, kWI, bWI⟩ := GW.ex
  obtain ⟨fRO, fdRO, GRO, mRO, kRO, bRO⟩ := GR.ex
  obtain ⟨fIE, fdIE, GIE, mIE, kIE, bIE⟩ := GI.ex
  obtain ⟨tLV, mLV⟩ := TX.lv
  obtain ⟨tMD, mMD⟩ := TX.md
  refine F.ok scIs (fun vs H Q E h => ?_) (fun cdv A outer s H vs Q E hr h => ?_)
  · obtain ⟨v, e, W, rfl, _⟩ := h
    rfl
  · obtain ⟨v, e, W, rfl, he, hW, hg, q⟩ := h
    have nd := scIs.nd
    have hr1 : Room 1 _ := hr.mono (by omega)
    have hrE : Room 44 _ := hr
    obtain ⟨o, tv, eo⟩ := ro_ed he
    have e3 := eo 3 3 rfl
    have e2 := eo 2 2 rfl
    refine ⟨_, (pss_cons (ps_if (PW.pt (pw_and (pt_val (pe_call GRO hr1 (by rfl) mRO kRO bRO .nil pass0 (pa_cons (pv 1) (pa_cons pe_int pa_nil)))) (pw_and1 (pt_cmpR op_eq (pe_ix (r := rIxT K) ix_tup (pv 1) pe_int (fun _ _ => rfl)) pe_str (nomark _))))) (pss_one (ps_ret (pe_and (pe_call GWI hr1 (by rfl) mWI kWI bWI .nil pass0 (pa_cons (pe_ix (r := rIxT K) ix_tup (pv 1) pe_int (fun _ _ => rfl)) (pa_cons pe_int (pa_cons (pe_glob (v := .int 99) (by rfl) mLV ⟨_, rfl⟩) pa_nil)))) (pe_one (pe_call GIE hrE (by rfl) mIE kIE bIE .nil pass0 (pa_cons (pv 0) (pa_cons (pe_ix (r := rIxT K) ix_tup (pv 1) pe_int (fun _ _ => rfl)) (pa_cons (pe_glob (v := .int 20) (by rfl) mMD ⟨_, rfl⟩) pa_nil)))))))) pss_nil)
 (pss_cons (ps_if (PW.pt (pw_and (pt_val (pe_call GRO hr1 (by rfl) mRO kRO bRO .nil pass0 (pa_cons (pv 1) (pa_cons pe_int pa_nil)))) (pw_and1 (pt_cmpR op_eq (pe_ix (r := rIxT K) ix_tup (pv 1) pe_int (fun _ _ => rfl)) pe_str (nomark _))))) (pss_one (ps_ret (pe_and (pe_call GIE hrE (by rfl) mIE kIE bIE .nil pass0 (pa_cons (pv 0) (pa_cons (pe_ix (r := rIxT K) ix_tup (pv 1) pe_int (fun _ _ => rfl)) (pa_cons (pe_glob (v := .int 20) (by rfl) mMD ⟨_, rfl⟩) pa_nil)))) (pe_one (pe_call GIE hrE (by rfl) mIE kIE bIE .nil pass0 (pa_cons (pv 0) (pa_cons (pe_ix (r := rIxT K) ix_tup (pv 1) pe_int (fun _ _ => rfl)) (pa_cons (pe_glob (v := .int 20) (by rfl) mMD ⟨_, rfl⟩) pa_nil)))))))) pss_nil)
 (pss_one (ps_ret (pe_and (pe_call GRO hr1 (by rfl) mRO kRO bRO .nil pass0 (pa_cons (pv 1) (pa_cons pe_int pa_nil))) (pe_and (pe_cmpR op_eq (pe_ix (r := rIxT K) ix_tup (pv 1) pe_int (fun _ _ => rfl)) pe_str (nomark _)) (pe_one (pe_call GIE hrE (by rfl) mIE kIE bIE .nil pass0 (pa_cons (pv 0) (pa_cons (pe_ix (r := rIxT K) ix_tup (pv 1) pe_int (fun _ _ => rfl)) (pa_cons (pe_glob (v := .int 20) (by rfl) mMD ⟨_, rfl⟩) pa_nil))))))))))), ?_⟩
    by_cases h3 : rowB e 3 = true
    · cases e with
      | t3 s a b =>
        have he0 := he
        obtain ⟨ta, ua, ub, rfl, hta, ha, hb⟩ := he0
        refine ⟨_, rfl, _, 3, o, rfl, tv, ?_⟩
        rw [e3]
        refine ⟨_, rfl, iteT ⟨_, rfl, ta, _, _, _, rfl, rfl, .of hta, atI_nat (j := 0) rfl, rfl, _, rfl, ?_⟩⟩
        by_cases n1 : s = "set"
        · subst n1
          rw [dT]
          have q : ∀ H', KG Ts H H' → Gt Ts H' → Q (.bl (inI a 0 99 && isE W 20 b)) H' := q
          refine iteT ⟨_, rfl, ta, _, _, _, rfl, rfl, .of hta, atI_nat (j := 1) rfl, ua, 0, 99, a, rfl, ha, ?_⟩
          cases h1 : inI a 0 99 with
          | false =>
            rw [h1] at q
            exact ⟨_, rfl, iteF (q H (KG.refl _ _) hg)⟩
          | true =>
            rw [h1] at q
            exact ⟨_, rfl, iteT ⟨_, rfl, _, rfl, ta, _, _, _, rfl, rfl, .of hta, atI_nat (j := 2) rfl, ub, b, W, rfl, hb, hW, hg, q⟩⟩
        have q : ∀ H', KG Ts H H' → Gt Ts H' → Q (.bl (if s = "set" then inI a 0 99 && isE W 20 b else decide (s = "store") && (isE W 20 a && isE W 20 b))) H' := q
        rw [if_neg n1] at q
        rw [dS n1]
        refine iteF ⟨_, rfl, _, 3, o, rfl, tv, ?_⟩
        rw [e3]
        refine ⟨_, rfl, iteT ⟨_, rfl, ta, _, _, _, rfl, rfl, .of hta, atI_nat (j := 0) rfl, rfl, _, rfl, ?_⟩⟩
        by_cases n2 : s = "store"
        · subst n2
          rw [dT]
          refine iteT ⟨_, rfl, _, rfl, ta, _, _, _, rfl, rfl, .of hta, atI_nat (j := 1) rfl, ua, a, W, rfl, ha, hW, hg, fun H1 k1 g1 => ?_⟩
          have q : ∀ H', KG Ts H H' → Gt Ts H' → Q (.bl (isE W 20 a && isE W 20 b)) H' := q
          have t1 := KG.tups hg k1
          cases h1 : isE W 20 a with
          | false =>
            rw [h1] at q
            exact ⟨_, rfl, iteF (q H1 k1 g1)⟩
          | true =>
            rw [h1] at q
            exact ⟨_, rfl, iteT ⟨_, rfl, _, rfl, ta, _, _, _, rfl, rfl, .of (t1 _ _ hta), atI_nat (j := 2) rfl, ub, b, W, rfl, EdAt.mono t1 hb, hW, g1, fun H2 k2 g2 => q H2 (k1.trans k2) g2⟩⟩
        rw [dS n2]
        rw [decide_eq_false n2] at q
        refine iteF ⟨_, rfl, _, 2, o, rfl, tv, ?_⟩
        rw [e2]
        exact ⟨_, rfl, iteF (q H (KG.refl _ _) hg)⟩
      | _ => cases h3
    have h3 : rowB e 3 = false := by simpa using h3
    refine ⟨_, rfl, _, 3, o, rfl, tv, ?_⟩
    rw [e3]
    refine ⟨_, rfl, ?_⟩
    rw [h3]
    refine iteF ⟨_, rfl, _, 3, o, rfl, tv, ?_⟩
    rw [e3]
    refine ⟨_, rfl, ?_⟩
    rw [h3]
    refine iteF ⟨_, rfl, _, 2, o, rfl, tv, ?_⟩
    rw [e2]
    refine ⟨_, rfl, ?_⟩
    by_cases h2 : rowB e 2 = true
    · cases e with
      | t2 s a =>
        obtain ⟨ta, ua, rfl, hta, ha⟩ := he
        refine iteT ⟨_, rfl, ta, _, _, _, rfl, rfl, .of hta, atI_nat (j := 0) rfl, rfl, _, rfl, ?_⟩
        have q : ∀ H', KG Ts H H' → Gt Ts H' → Q (.bl (decide (s = "write") && isE W 20 a)) H' := q
        by_cases n1 : s = "write"
        · subst n1
          rw [dT]
          exact iteT ⟨_, rfl, _, rfl, ta, _, _, _, rfl, rfl, .of hta, atI_nat (j := 1) rfl, ua, a, W, rfl, ha, hW, hg, q⟩
        · rw [decide_eq_false n1] at q
          rw [dS n1]
          exact iteF (q H (KG.refl _ _) hg)
      | _ => cases h2
    have h2 : rowB e 2 = false := by simpa using h2
    rw [h2]
    rw [st_no W e h3 h2] at q
    exact iteF (q H (KG.refl _ _) hg)
theorem ok_in {f pP pS : Addr} {fd : FuncData} (F : Fun K "_is_end" "_is_end" sIsEnd f fd) (TX : TxP K mg pP pS) (Ts : List Addr)
    (GL : Got P w K mg base 2 "_is_label" ["value"] spIl) (GR : Got P w K mg base 1 "is_row" ["value", "size"] spRo) (GI : Got P w K mg base 44 "is_expression" ["width", "value", "deep"] (spIE Ts 21)) : FnOk P w K mg base CX0 45 f fd ["width", "value"] (spIn Ts) := by
  obtain ⟨fIL, fdIL, GIL, mIL, kIL, bIL⟩ := GL.ex
  obtain ⟨fRO, fdRO, GRO, mRO, kRO, bRO⟩ := GR.ex
  obtain ⟨fIE, fdIE, GIE, mIE, kIE, bIE⟩ := GI.ex
  obtain ⟨tMD, mMD⟩ := TX.md
  refine F.ok scIn (fun vs H Q E h => ?_) (fun cdv A outer s H vs Q E hr h => ?_)
  · obtain ⟨v, e, W, rfl, _⟩ := h
    rfl
  · obtain ⟨v, e, W, rfl, he, hW, hg, q⟩ := h
    have nd := scIn.nd
    have hr1 : Room 1 _ := hr.mono (by omega)
    have hr2 : Room 2 _ := hr.mono (by omega)
    have hrE : Room 44 _ := hr
    obtain ⟨o, tv, eo⟩ := ro_ed he
    have e4 := eo 4 4 rfl
    have e2 := eo 2 2 rfl
    refine ⟨_, (pss_cons (ps_if (PW.pt (pw_and (pt_val (pe_call GRO hr1 (by rfl) mRO kRO bRO .nil pass0 (pa_cons (pv 1) (pa_cons pe_int pa_nil)))) (pw_and1 (pt_cmpR op_eq (pe_ix (r := rIxT K) ix_tup (pv 1) pe_int (fun _ _ => rfl)) pe_str (nomark _))))) (pss_one (ps_ret (pe_call GIL hr2 (by rfl) mIL kIL bIL .nil pass0 (pa_cons (pe_ix (r := rIxT K) ix_tup (pv 1) pe_int (fun _ _ => rfl)) pa_nil)))) pss_nil)
 (pss_cons (ps_if (PW.pt (pw_and (pt_val (pe_call GRO hr1 (by rfl) mRO kRO bRO .nil pass0 (pa_cons (pv 1) (pa_cons pe_int pa_nil)))) (pw_and1 (pt_cmpR op_eq (pe_ix (r := rIxT K) ix_tup (pv 1) pe_int (fun _ _ => rfl)) pe_str (nomark _))))) (pss_one (ps_ret (pe_and (pe_call GIE hrE (by rfl) mIE kIE bIE .nil pass0 (pa_cons (pv 0) (pa_cons (pe_ix (r := rIxT K) ix_tup (pv 1) pe_int (fun _ _ => rfl)) (pa_cons (pe_glob (v := .int 20) (by rfl) mMD ⟨_, rfl⟩) pa_nil)))) (pe_and (pe_call GIL hr2 (by rfl) mIL kIL bIL .nil pass0 (pa_cons (pe_ix (r := rIxT K) ix_tup (pv 1) pe_int (fun _ _ => rfl)) pa_nil)) (pe_one (pe_call GIL hr2 (by rfl) mIL kIL bIL .nil pass0 (pa_cons (pe_ix (r := rIxT K) ix_tup (pv 1) pe_int (fun _ _ => rfl)) pa_nil))))))) pss_nil)
 (pss_one (ps_ret (pe_and (pe_call GRO hr1 (by rfl) mRO kRO bRO .nil pass0 (pa_cons (pv 1) (pa_cons pe_int pa_nil))) (pe_and (pe_cmpR op_eq (pe_ix (r := rIxT K) ix_tup (pv 1) pe_int (fun _ _ => rfl)) pe_str (nomark _)) (pe_one (pe_call GIE hrE (by rfl) mIE kIE bIE .nil pass0 (pa_cons (pv 0) (pa_cons (pe_ix (r := rIxT K) ix_tup (pv 1) pe_int (fun _ _ => rfl)) (pa_cons (pe_glob (v := .int 20) (by rfl) mMD ⟨_, rfl⟩) pa_nil))))))))))), ?_⟩
    by_cases h3 : rowB e 4 = true
    · cases e with
      | t4 s a b c =>
        have he0 := he
        obtain ⟨ta, ua, ub, uc, rfl, hta, ha, hb, hc⟩ := he0
        refine ⟨_, rfl, _, 2, o, rfl, tv, ?_⟩
        rw [e2]
        refine ⟨_, rfl, iteF ⟨_, rfl, _, 4, o, rfl, tv, ?_⟩⟩
        rw [e4]
        refine ⟨_, rfl, iteT ⟨_, rfl, ta, _, _, _, rfl, rfl, .of hta, atI_nat (j := 0) rfl, rfl, _, rfl, ?_⟩⟩
        have q : ∀ H', KG Ts H H' → Gt Ts H' → Q (.bl (decide (s = "if") && (isE W 20 a && (inI b 0 999 && inI c 0 999)))) H' := q
        by_cases n2 : s = "if"
        · subst n2
          rw [dT]
          refine iteT ⟨_, rfl, _, rfl, ta, _, _, _, rfl, rfl, .of hta, atI_nat (j := 1) rfl, ua, a, W, rfl, ha, hW, hg, fun H1 k1 g1 => ?_⟩
          have q : ∀ H', KG Ts H H' → Gt Ts H' → Q (.bl (isE W 20 a && (inI b 0 999 && inI c 0 999))) H' := q
          have t1 := KG.tups hg k1
          cases h1 : isE W 20 a with
          | false =>
            rw [h1] at q
            exact ⟨_, rfl, iteF (q H1 k1 g1)⟩
          | true =>
            rw [h1] at q
            refine ⟨_, rfl, iteT ⟨_, rfl, ta, _, _, _, rfl, rfl, .of (t1 _ _ hta), atI_nat (j := 2) rfl, ub, b, rfl, EdAt.mono t1 hb, ?_⟩⟩
            cases h2 : inI b 0 999 with
            | false =>
              rw [h2] at q
              exact ⟨_, rfl, iteF (q H1 k1 g1)⟩
            | true =>
              rw [h2] at q
              exact ⟨_, rfl, iteT ⟨_, rfl, ta, _, _, _, rfl, rfl, .of (t1 _ _ hta), atI_nat (j := 3) rfl, uc, c, rfl, EdAt.mono t1 hc, q H1 k1 g1⟩⟩
        rw [dS n2]
        rw [decide_eq_false n2] at q
        refine iteF ⟨_, rfl, _, 2, o, rfl, tv, ?_⟩
        rw [e2]
        exact ⟨_, rfl, iteF (q H (KG.refl _ _) hg)⟩
      | _ => cases h3
    have h3 : rowB e 4 = false := by simpa using h3
    by_cases h2 : rowB e 2 = true
    · cases e with
      | t2 s a =>
        have he0 := he
        obtain ⟨ta, ua, rfl, hta, ha⟩ := he0
        refine ⟨_, rfl, _, 2, o, rfl, tv, ?_⟩
        rw [e2]
        refine ⟨_, rfl, iteT ⟨_, rfl, ta, _, _, _, rfl, rfl, .of hta, atI_nat (j := 0) rfl, rfl, _, rfl, ?_⟩⟩
        have q : ∀ H', KG Ts H H' → Gt Ts H' → Q (.bl (if s = "go" then inI a 0 999 else decide (s = "return") && isE W 20 a)) H' := q
        by_cases n1 : s = "go"
        · subst n1
          rw [dT]
          exact iteT ⟨_, rfl, ta, _, _, _, rfl, rfl, .of hta, atI_nat (j := 1) rfl, ua, a, rfl, ha, q H (KG.refl _ _) hg⟩
        rw [if_neg n1] at q
        rw [dS n1]
        refine iteF ⟨_, rfl, _, 4, o, rfl, tv, ?_⟩
        rw [e4]
        refine ⟨_, rfl, iteF ⟨_, rfl, _, 2, o, rfl, tv, ?_⟩⟩
        rw [e2]
        refine ⟨_, rfl, iteT ⟨_, rfl, ta, _, _, _, rfl, rfl, .of hta, atI_nat (j := 0) rfl, rfl, _, rfl, ?_⟩⟩
        by_cases n2 : s = "return"
        · subst n2
          rw [dT]
          exact iteT ⟨_, rfl, _, rfl, ta, _, _, _, rfl, rfl, .of hta, atI_nat (j := 1) rfl, ua, a, W, rfl, ha, hW, hg, q⟩
        · rw [decide_eq_false n2] at q
          rw [dS n2]
          exact iteF (q H (KG.refl _ _) hg)
      | _ => cases h2
    have h2 : rowB e 2 = false := by simpa using h2
    refine ⟨_, rfl, _, 2, o, rfl, tv, ?_⟩
    rw [e2]
    refine ⟨_, rfl, ?_⟩
    rw [h2]
    refine iteF ⟨_, rfl, _, 4, o, rfl, tv, ?_⟩
    rw [e4]
    refine ⟨_, rfl, ?_⟩
    rw [h3]
    refine iteF ⟨_, rfl, _, 2, o, rfl, tv, ?_⟩
    rw [e2]
    refine ⟨_, rfl, ?_⟩
    rw [h2]
    rw [end_no W e h3 h2] at q
    exact iteF (q H (KG.refl _ _) hg)
end
end K0

set_option Elab.async false
set_option linter.all false
set_option maxRecDepth 100000
set_option maxHeartbeats 1000000
namespace K0
open PySem L2
abbrev NHb : List Str := ["value"]
/-- a block, or what stands in its place -/
inductive Bk where
  | non
  | row (l : Ed) (body : List Ed) (fin : Ed)
def BkAt (H : Hp) : Bk → V → Prop
  | .non, v => v = .non
  | .row l body fin, v => ∃ (a bd : Addr) (lv fv : V) (us : List V), v = .ref a ∧ H a = some (.tup [lv, .ref bd, fv]) ∧ EdAt H l lv ∧ H bd = some (.tup us) ∧ Paired (EdAt H) body us ∧ EdAt H fin fv
theorem BkAt.mono {H H' : Hp} (t : Tups H H') {b : Bk} {v : V} (h : BkAt H b v) : BkAt H' b v := by
  cases b with
  | non => exact h
  | row l body fin =>
    obtain ⟨a, bd, lv, fv, us, e1, e2, e3, e4, e5, e6⟩ := h
    exact ⟨a, bd, lv, fv, us, e1, t _ _ e2, e3.mono t, t _ _ e4, L2.Paired.mapP e5 fun _ _ z => EdAt.mono t z, e6.mono t⟩
/-- whether a block has a block's form; how much stands in its body -/
def blkB : Bk → Bool
  | .row l _ fin => inI l 0 999 && isT fin
  | _ => false
def bodyN : Bk → Nat
  | .row _ body _ => body.length
  | _ => 0
/-- the targets in the module's order -/
def sucs : Ed → List Int
  | .t2 s a => if s = "go" then [valI a] else []
  | .t4 _ _ b c => if valI b = valI c then [valI b] else [valI b, valI c]
  | _ => []
theorem in_val {e : Ed} {a b : Int} (h : inI e a b = true) : e = .int (valI e) := by
  cases e with
  | int i => rfl
  | _ => cases h
def spHb : Sp := fun vs H Q _ => ∃ (v : V) (b : Bk), vs = [v] ∧ BkAt H b v ∧ bodyN b ≤ 60 ∧ Q (.bl (blkB b)) H
def spSu : Sp := fun vs H Q _ => ∃ (a bd : Addr) (lv fv : V) (fin : Ed) (W : Nat), vs = [.ref a] ∧ H a = some (.tup [lv, .ref bd, fv]) ∧ EdAt H fin fv ∧ endB W fin = true ∧ ∀ b H', Same H H' → H' b = some (.tup ((sucs fin).map V.int)) → Q (.ref b) H'
section
variable {P : Program} {w : World} {K : PySem.W.Frag} {mg : Str → Option Value} {base : Heap}
theorem scHb : FnScope NHb ["value"] (defScope sHBF) := ⟨rfl, rfl, rfl, by decide +kernel, rfl, by decide +kernel, by decide +kernel⟩
theorem ok_hb {f pP pS : Addr} {fd : FuncData} (F : Fun K "_has_block_form" "_has_block_form" sHBF f fd) (TX : TxP K mg pP pS) (m_len : mg "len" = none) (m_type : mg "type" = none) (m_tuple : mg "tuple" = none)
    (GL : Got P w K mg base 2 "_is_label" ["value"] spIl) (GR : Got P w K mg base 1 "is_row" ["value", "size"] spRo) : FnOk P w K mg base CX0 3 f fd ["value"] spHb := by
  obtain ⟨fIL, fdIL, GIL, mIL, kIL, bIL⟩ := GL.ex
  obtain ⟨fRO, fdRO, GRO, mRO, kRO, bRO⟩ := GR.ex
  obtain ⟨tMI, mMI⟩ := TX.mi
  refine F.ok scHb (fun vs H Q E h => ?_) (fun cdv A outer s H vs Q E hr h => ?_)
  · obtain ⟨v, b, rfl, _⟩ := h
    rfl
  · obtain ⟨v, b, rfl, hb, hN, q⟩ := h
    have nd := scHb.nd
    have hr1 : Room 1 _ := hr.mono (by omega)
    have hr2 : Room 2 _ := hr
    refine ⟨_, (pss_cons (ps_if (PW.pt (pw_or (pt_not (pt_val (pe_call GRO hr1 (by rfl) mRO kRO bRO .nil pass0 (pa_cons (pv 0) (pa_cons pe_int pa_nil))))) (pw_or1 (pt_not (pt_val (pe_call GIL hr2 (by rfl) mIL kIL bIL .nil pass0 (pa_cons (pe_ix (r := rIxT K) ix_tup (pv 0) pe_int (fun _ _ => rfl)) pa_nil))))))) (pss_one (ps_ret pe_bl)) pss_nil)
 (pss_one (ps_ret (pe_and (pe_cmpR op_isTyB (pe_callTy (T := "type") (r := rTyp K) call_type1 (by rfl) m_type (by decide +kernel) (pa_cons (pe_ix (r := rIxT K) ix_tup (pv 0) pe_int (fun _ _ => rfl)) pa_nil)) (pe_bltn (v := .ty "tuple") (by rfl) m_tuple (by decide +kernel) rfl) (nomark _)) (pe_and (pe_cmpR op_le (pe_callB (r := rLenS K) call_len_seq (by rfl) m_len PySem.boot_len (pa_cons (pe_ix (r := rIxT K) ix_tup (pv 0) pe_int (fun _ _ => rfl)) pa_nil)) (pe_glob (v := .int 60) (by rfl) mMI ⟨_, rfl⟩) (nomark _)) (pe_one (pe_cmpR op_isTyB (pe_callTy (T := "type") (r := rTyp K) call_type1 (by rfl) m_type (by decide +kernel) (pa_cons (pe_ix (r := rIxT K) ix_tup (pv 0) pe_int (fun _ _ => rfl)) pa_nil)) (pe_bltn (v := .ty "tuple") (by rfl) m_tuple (by decide +kernel) rfl) (nomark _)))))))), ?_⟩
    cases b with
    | non =>
      obtain rfl : v = .non := hb
      exact ⟨_, rfl, .non, 3, none, rfl, .inl rfl, _, rfl, iteT (iteT q)⟩
    | row l body fin =>
      obtain ⟨a, bd, lv, fv, us, rfl, ha, hl, hbd, pu, hf⟩ := hb
      refine ⟨_, rfl, .ref a, 3, some _, rfl, ⟨a, rfl, ha⟩, _, rfl, iteF ⟨_, rfl, a, _, _, _, rfl, rfl, .of ha, atI_nat (j := 0) rfl, lv, l, rfl, hl, _, rfl, ?_⟩⟩
      have q : Q (.bl (inI l 0 999 && isT fin)) H := q
      cases h1 : inI l 0 999 with
      | false =>
        rw [h1] at q
        exact iteT q
      | true =>
        rw [h1, Bool.true_and] at q
        have hN : body.length ≤ 60 := hN
        have lu := pu.length
        refine iteF ⟨_, rfl, a, _, _, _, rfl, rfl, .of ha, atI_nat (j := 1) rfl, _, _, rfl, .tup (.of hbd), _, _, rfl, rfl, _, rfl, iteT ?_⟩
        refine ⟨_, rfl, a, _, _, _, rfl, rfl, .of ha, atI_nat (j := 1) rfl, bd, us, rfl, .inr (.of hbd), _, _, rfl, rfl, _, rfl, ?_⟩
        rw [decide_eq_true (show ((us.length : Nat) : Int) ≤ 60 by omega)]
        refine iteT ⟨_, rfl, a, _, _, _, rfl, rfl, .of ha, atI_nat (j := 2) rfl, ?_⟩
        cases ht : isT fin with
        | true =>
          rw [ht] at q
          obtain ⟨tf, uf, rfl, htf, _⟩ := ed_tup hf ht
          exact ⟨_, _, rfl, .tup (.of htf), _, _, rfl, rfl, q⟩
        | false =>
          rw [ht] at q
          rcases ed_no hf ht with rfl | ⟨b, rfl⟩ | ⟨i, rfl⟩ | ⟨s, rfl⟩
          · exact ⟨_, _, rfl, .non, _, _, rfl, rfl, q⟩
          · exact ⟨_, _, rfl, .bl _, _, _, rfl, rfl, q⟩
          · exact ⟨_, _, rfl, .int _, _, _, rfl, rfl, q⟩
          · exact ⟨_, _, rfl, .str _, _, _, rfl, rfl, q⟩
theorem ok_su {f : Addr} {fd : FuncData} (F : Fun K "successors" "successors" sSucc f fd) : FnOk P w K mg base CX0 1 f fd ["block"] spSu := by
  refine F.ok scSu (fun vs H Q E h => ?_) (fun cdv A outer s H vs Q E hr h => ?_)
  · obtain ⟨a, bd, lv, fv, fin, W, rfl, _⟩ := h
    rfl
  · obtain ⟨a, bd, lv, fv, fin, W, rfl, ha, hf, hE, q⟩ := h
    have nd := scSu.nd
    refine ⟨_, (pss_cons (ps_set (i := 1) nd rfl (.inl rfl) (pe_ix (r := rIxT K) ix_tup (pv 0) pe_int (fun _ _ => rfl)))
 (pss_cons (ps_if (pt_cmpR op_eq (pe_ix (r := rIxT K) ix_tup (pv 1) pe_int (fun _ _ => rfl)) pe_str (nomark _)) (pss_one (ps_ret (pe_tup (pa_cons (pe_ix (r := rIxT K) ix_tup (pv 1) pe_int (fun _ _ => rfl)) pa_nil)))) pss_nil)
 (pss_cons (ps_if (pt_cmpR op_eq (pe_ix (r := rIxT K) ix_tup (pv 1) pe_int (fun _ _ => rfl)) pe_str (nomark _)) (pss_one (ps_ret (pe_tup pa_nil))) pss_nil)
 (pss_cons (ps_if (pt_cmpR op_eq (pe_ix (r := rIxT K) ix_tup (pv 1) pe_int (fun _ _ => rfl)) (pe_ix (r := rIxT K) ix_tup (pv 1) pe_int (fun _ _ => rfl)) (nomark _)) (pss_one (ps_ret (pe_tup (pa_cons (pe_ix (r := rIxT K) ix_tup (pv 1) pe_int (fun _ _ => rfl)) pa_nil)))) pss_nil)
 (pss_one (ps_ret (pe_tup (pa_cons (pe_ix (r := rIxT K) ix_tup (pv 1) pe_int (fun _ _ => rfl)) (pa_cons (pe_ix (r := rIxT K) ix_tup (pv 1) pe_int (fun _ _ => rfl)) pa_nil))))))))), ?_⟩
    refine ⟨_, rfl, a, _, _, _, rfl, rfl, .of ha, atI_nat (j := 2) rfl, ?_⟩
    have fini : ∀ (xs : List Int), sucs fin = xs → xs.length ≤ 2 → (xs.map V.int).length ≤ sizeLine ∧ ∀ p, H p = none → Q (.ref p) (upd H p (.tup (xs.map V.int))) := fun xs e l => by
      refine ⟨by rw [List.length_map]; exact Nat.le_of_lt (big (by omega)), fun p hp => ?_⟩
      exact q p _ (same_new hp) (by rw [upd_same, e])
    cases fin with
    | t2 s x =>
      obtain ⟨ta, ua, rfl, hta, hx⟩ := hf
      refine ⟨_, rfl, ta, _, _, _, rfl, rfl, .of hta, atI_nat (j := 0) rfl, rfl, _, rfl, ?_⟩
      by_cases n1 : s = "go"
      · subst n1
        have hE : inI x 0 999 = true := hE
        have hx : ua = .int (valI x) := by rw [in_val hE] at hx; exact hx
        subst hx
        rw [dT]
        exact iteT ⟨_, rfl, ta, _, _, _, rfl, rfl, .of hta, atI_nat (j := 1) rfl, (fini [valI x] rfl (by simp))⟩
      · have hE : (if s = "go" then inI x 0 999 else decide (s = "return") && isE W 20 x) = true := hE
        rw [if_neg n1] at hE
        have n2 : s = "return" := by
          by_cases z : s = "return"
          · exact z
          · rw [decide_eq_false z] at hE; cases hE
        subst n2
        rw [dS n1]
        refine iteF ⟨_, rfl, ta, _, _, _, rfl, rfl, .of hta, atI_nat (j := 0) rfl, rfl, _, rfl, ?_⟩
        rw [dT]
        exact iteT (fini [] rfl (by decide))
    | t4 s x y z =>
      obtain ⟨ta, ua, ub, uc, rfl, hta, hx, hy, hz⟩ := hf
      have hE : (decide (s = "if") && (isE W 20 x && (inI y 0 999 && inI z 0 999))) = true := hE
      simp only [Bool.and_eq_true, decide_eq_true_eq] at hE
      obtain ⟨rfl, _, h1, h2⟩ := hE
      have hy : ub = .int (valI y) := by rw [in_val h1] at hy; exact hy
      have hz : uc = .int (valI z) := by rw [in_val h2] at hz; exact hz
      subst hy hz
      refine ⟨_, rfl, ta, _, _, _, rfl, rfl, .of hta, atI_nat (j := 0) rfl, rfl, _, rfl, ?_⟩
      rw [dS (show ¬ ("if" : Str) = "go" by decide +kernel)]
      refine iteF ⟨_, rfl, ta, _, _, _, rfl, rfl, .of hta, atI_nat (j := 0) rfl, rfl, _, rfl, ?_⟩
      rw [dS (show ¬ ("if" : Str) = "return" by decide +kernel)]
      refine iteF ⟨_, rfl, ta, _, _, _, rfl, rfl, .of hta, atI_nat (j := 2) rfl, _, rfl, ta, _, _, _, rfl, rfl, .of hta, atI_nat (j := 3) rfl, rfl, _, rfl, ?_⟩
      rw [dI]
      by_cases e : valI y = valI z
      · rw [show (valI y == valI z) = true from by simp [e]]
        exact iteT ⟨_, rfl, ta, _, _, _, rfl, rfl, .of hta, atI_nat (j := 2) rfl, (fini [valI y] (by show (if valI y = valI z then _ else _) = _; rw [if_pos e]) (by simp))⟩
      · rw [show (valI y == valI z) = false from by simp [e]]
        exact iteF ⟨_, rfl, ta, _, _, _, rfl, rfl, .of hta, atI_nat (j := 2) rfl, _, rfl, ta, _, _, _, rfl, rfl, .of hta, atI_nat (j := 3) rfl, (fini [valI y, valI z] (by show (if valI y = valI z then _ else _) = _; rw [if_neg e]) (by simp))⟩
    | _ => cases hE
end
end K0

set_option Elab.async false
set_option linter.all false
set_option maxRecDepth 100000
set_option maxHeartbeats 1000000
namespace K0
open PySem L2
abbrev NHf : List Str := ["value", "blocks", "block"]
abbrev NBf : List Str := ["width", "block", "labels", "label", "body", "end", "found", "ways", "item", "way"]
/-- what the program is asked about -/
inductive Va where
  | non
  | int (i : Int)
  | two (w p : Ed)
  | three (w p : Ed) (bs : Option (List Bk))
def VaAt (H : Hp) : Va → V → Prop
  | .non, v => v = .non
  | .int i, v => v = .int i
  | .two w p, v => ∃ (a : Addr) (wv pv : V), v = .ref a ∧ H a = some (.tup [wv, pv]) ∧ EdAt H w wv ∧ EdAt H p pv
  | .three w p none, v => ∃ (a : Addr) (wv pv : V), v = .ref a ∧ H a = some (.tup [wv, pv, .non]) ∧ EdAt H w wv ∧ EdAt H p pv
  | .three w p (some bs), v => ∃ (a bb : Addr) (wv pv : V) (us : List V), v = .ref a ∧ H a = some (.tup [wv, pv, .ref bb]) ∧ EdAt H w wv ∧ EdAt H p pv ∧ H bb = some (.tup us) ∧ Paired (BkAt H) bs us
theorem VaAt.mono {H H' : Hp} (t : Tups H H') {x : Va} {v : V} (h : VaAt H x v) : VaAt H' x v := by
  cases x with
  | non => exact h
  | int i => exact h
  | two w p =>
    obtain ⟨a, wv, pv, e1, e2, e3, e4⟩ := h
    exact ⟨a, wv, pv, e1, t _ _ e2, e3.mono t, e4.mono t⟩
  | three w p bs =>
    cases bs with
    | none =>
      obtain ⟨a, wv, pv, e1, e2, e3, e4⟩ := h
      exact ⟨a, wv, pv, e1, t _ _ e2, e3.mono t, e4.mono t⟩
    | some bs =>
      obtain ⟨a, bb, wv, pv, us, e1, e2, e3, e4, e5, e6⟩ := h
      exact ⟨a, bb, wv, pv, us, e1, t _ _ e2, e3.mono t, e4.mono t, t _ _ e5, L2.Paired.mapP e6 fun _ _ z => BkAt.mono t z⟩
def formB : Va → Bool
  | .three w p (some bs) => inI w 1 16 && (inI p 0 6 && (decide (1 ≤ bs.length) && bs.all blkB))
  | _ => false
/-- how large a value may be -/
def Va.small : Va → Prop
  | .three _ _ (some bs) => bs.length ≤ 40 ∧ ∀ b ∈ bs, bodyN b ≤ 60
  | _ => True
def labI : Bk → Int
  | .row l _ _ => valI l
  | _ => 0
/-- the faults of a block, in the order in which they are found -/
def codes (W : Nat) (ls : List Int) : Bk → List Str
  | .row l body fin =>
    (if 1 < ls.count (valI l) then [("twice" : Str)] else []) ++ ((if body.all (stB W) then [] else [("statement" : Str)]) ++
      (if endB W fin then (if (sucs fin).all (fun t => decide (t ∈ ls)) then [] else [("target" : Str)]) ++ (if ls.headD 0 ∈ sucs fin then [("entry" : Str)] else []) else [("end" : Str)]))
  | .non => []
def spHf (Ts : List Addr) : Sp := fun vs H Q _ => ∃ (v : V) (x : Va), vs = [v] ∧ VaAt H x v ∧ x.small ∧ Gt Ts H ∧ ∀ H', KG Ts H H' → Gt Ts H' → Q (.bl (formB x)) H'
def spBf (Ts : List Addr) : Sp := fun vs H Q _ => ∃ (v : V) (la : Addr) (b : Bk) (W : Nat) (l0 : Int) (ls : List Int), vs = [.int (W : Int), v, .ref la] ∧ BkAt H b v ∧ blkB b = true ∧ W ≤ 16 ∧ H la = some (.lst ((l0 :: ls).map V.int)) ∧ Gt Ts H ∧
  ∀ r H', KG Ts H H' → Gt Ts H' → H r = none → H' r = some (.lst ((codes W (l0 :: ls) b).map V.str)) → Q (.ref r) H'
section
variable {P : Program} {w : World} {K : PySem.W.Frag} {mg : Str → Option Value} {base : Heap}
theorem scHf : FnScope NHf ["value"] (defScope sHF) := ⟨rfl, rfl, rfl, by decide +kernel, rfl, by decide +kernel, by decide +kernel⟩
theorem scBf : FnScope NBf ["width", "block", "labels"] (defScope sBF) := ⟨rfl, rfl, rfl, by decide +kernel, rfl, by decide +kernel, by decide +kernel⟩
theorem ok_hf {f cI Tb pP pS : Addr} {fd : FuncData} (F : GxA.FunC K "_has_form" "_has_form" sHF f cI fd) (TX : TxP K mg pP pS) (m_len : mg "len" = none) (m_type : mg "type" = none) (m_tuple : mg "tuple" = none) (m_all : mg "all" = none) (TB : GxR.TabB base mg cI Tb)
    (GL : Got P w K mg base 2 "is_width" ["value"] spWd) (GR : Got P w K mg base 1 "is_row" ["value", "size"] spRo) (GW : Got P w K mg base 1 "is_within" ["value", "least", "most"] spWi) (GH : Got P w K mg base 3 "_has_block_form" ["value"] spHb) (Ts : List Addr) (hTb : Tb ∈ Ts) : FnOk P w K mg base CX0 5 f fd ["value"] (spHf Ts) := by
  obtain ⟨fWD, fdWD, GWD, mWD, kWD, bWD⟩ := GL.ex
  obtain ⟨fRO, fdRO, GRO, mRO, kRO, bRO⟩ := GR.ex
  obtain ⟨fWI, fdWI, GWI, mWI, kWI, bWI⟩ := GW.ex
  obtain ⟨fHB, fdHB, GHB, mHB, kHB, bHB⟩ := GH.ex
  obtain ⟨tMP, mMP⟩ := TX.mp
  obtain ⟨tMB, mMB⟩ := TX.mb
  refine F.ok scHf (fun vs H Q E h => ?_) (fun A outer s H vs Q E hr h => ?_)
  · obtain ⟨v, b, rfl, _⟩ := h
    rfl
  · obtain ⟨v, x, rfl, hx, hN, hg, q⟩ := h
    have nd := scHf.nd
    have hr1 : Room 1 _ := hr.mono (by omega)
    have hr2 : Room 2 _ := hr.mono (by omega)
    have hrG : Room 4 _ := hr
    refine ⟨_, (pss_cons (ps_if (PW.pt (pw_or (pt_not (pt_val (pe_call GRO hr1 (by rfl) mRO kRO bRO .nil pass0 (pa_cons (pv 0) (pa_cons pe_int pa_nil))))) (pw_or (pt_not (pt_val (pe_call GWD hr2 (by rfl) mWD kWD bWD .nil pass0 (pa_cons (pe_ix (r := rIxT K) ix_tup (pv 0) pe_int (fun _ _ => rfl)) pa_nil)))) (pw_or1 (pt_not (pt_val (pe_call GWI hr1 (by rfl) mWI kWI bWI .nil pass0 (pa_cons (pe_ix (r := rIxT K) ix_tup (pv 0) pe_int (fun _ _ => rfl)) (pa_cons pe_int (pa_cons (pe_glob (v := .int 6) (by rfl) mMP ⟨_, rfl⟩) pa_nil)))))))))) (pss_one (ps_ret pe_bl)) pss_nil)
 (pss_cons (ps_set (i := 1) nd rfl (.inl rfl) (pe_ix (r := rIxT K) ix_tup (pv 0) pe_int (fun _ _ => rfl)))
 (pss_cons (ps_if (PW.pt (pw_or (pt_cmpR op_notTyB (pe_callTy (T := "type") (r := rTyp K) call_type1 (by rfl) m_type (by decide +kernel) (pa_cons (pv 1) pa_nil)) (pe_bltn (v := .ty "tuple") (by rfl) m_tuple (by decide +kernel) rfl) (nomark _)) (pw_or1 (pt_not (pt_chain op_le op_le pe_int (pe_callB (r := rLenS K) call_len_seq (by rfl) m_len PySem.boot_len (pa_cons (pv 1) pa_nil)) (pe_glob (v := .int 40) (by rfl) mMB ⟨_, rfl⟩)))))) (pss_one (ps_ret pe_bl)) pss_nil)
 (pss_one (ps_ret (GxA.pe_allG (k := 3) (own := [("block", 2)]) (g := (gName 2)) (tt := tYes) hrG rfl (by rfl) m_all TB rfl nd (GxA.genOk_by (N := NHf) (sc := defScope sHF) (by decide +kernel)) (pi_tup (pv 1)) (fun _ _ _ _ _ _ => (pg_name (i := 2) nd rfl (.inl rfl))) (fun _ _ _ _ _ _ _ => pts_nil) (fun _ _ _ _ _ _ hrE => (pe_call GHB hrE (by rfl) mHB kHB bHB .nil pass0 (pa_cons (pv 2) pa_nil))))))))), ?_⟩
    have q0 : ∀ b, formB x = b → Q (.bl b) H := fun b e => e ▸ q H (KG.refl _ _) hg
    cases x with
    | non =>
      obtain rfl : v = .non := hx
      exact ⟨_, rfl, .non, 3, none, rfl, .inl rfl, _, rfl, iteT (iteT (q0 _ rfl))⟩
    | int i =>
      obtain rfl : v = .int i := hx
      exact ⟨_, rfl, .int i, 3, none, rfl, .inr (.inr (.inl ⟨i, rfl⟩)), _, rfl, iteT (iteT (q0 _ rfl))⟩
    | two w p =>
      obtain ⟨a, wv, pv, rfl, ha, hw, hp⟩ := hx
      exact ⟨_, rfl, .ref a, 3, some _, rfl, ⟨a, rfl, ha⟩, _, rfl, iteT (iteT (q0 _ rfl))⟩
    | three w p bs =>
      have hd : ∃ (a : Addr) (wv pv bv : V), v = .ref a ∧ H a = some (.tup [wv, pv, bv]) ∧ EdAt H w wv ∧ EdAt H p pv ∧ match bs with | none => bv = .non | some bs => ∃ bb us, bv = .ref bb ∧ H bb = some (.tup us) ∧ Paired (BkAt H) bs us := by
        cases bs with
        | none =>
          obtain ⟨a, wv, pv, e1, e2, e3, e4⟩ := hx
          exact ⟨a, wv, pv, _, e1, e2, e3, e4, rfl⟩
        | some bs =>
          obtain ⟨a, bb, wv, pv, us, e1, e2, e3, e4, e5, e6⟩ := hx
          exact ⟨a, wv, pv, _, e1, e2, e3, e4, bb, us, rfl, e5, e6⟩
      obtain ⟨a, wv, pv, bv, rfl, ha, hw, hp, hbs⟩ := hd
      refine ⟨_, rfl, .ref a, 3, some _, rfl, ⟨a, rfl, ha⟩, _, rfl, iteF ⟨_, rfl, a, _, _, _, rfl, rfl, .of ha, atI_nat (j := 0) rfl, wv, w, rfl, hw, _, rfl, ?_⟩⟩
      cases h1 : inI w 1 16 with
      | false => exact iteT (iteT (q0 _ (by cases bs <;> simp [formB, h1])))
      | true =>
        refine iteF ⟨_, rfl, a, _, _, _, rfl, rfl, .of ha, atI_nat (j := 1) rfl, pv, 0, 6, p, rfl, hp, _, rfl, ?_⟩
        cases h2 : inI p 0 6 with
        | false => exact iteT (q0 _ (by cases bs <;> simp [formB, h1, h2]))
        | true =>
          refine iteF ⟨_, rfl, a, _, _, _, rfl, rfl, .of ha, atI_nat (j := 2) rfl, ?_⟩
          cases bs with
          | none =>
            obtain rfl : bv = .non := hbs
            exact ⟨_, rfl, _, _, rfl, .non, _, _, rfl, rfl, _, rfl, iteT (iteT (q0 _ rfl))⟩
          | some bs =>
            obtain ⟨bb, us, rfl, hbb, pb⟩ := hbs
            have lb := pb.length
            obtain ⟨hn1, hn2⟩ : bs.length ≤ 40 ∧ ∀ b ∈ bs, bodyN b ≤ 60 := hN
            refine ⟨_, rfl, _, _, rfl, .tup (.of hbb), _, _, rfl, rfl, _, rfl, iteF ⟨_, rfl, bb, _, rfl, .inr (.of hbb), _, _, rfl, rfl, _, rfl, ?_⟩⟩
            by_cases h3 : 1 ≤ bs.length
            · rw [decide_eq_true (show (1 : Int) ≤ ((us.length : Nat) : Int) by omega)]
              refine iteT ⟨_, _, rfl, rfl, _, rfl, ?_⟩
              rw [decide_eq_true (show ((us.length : Nat) : Int) ≤ 40 by omega)]
              refine iteF ⟨_, rfl, bb, rfl, ⟨_, .of hbb⟩, hg Tb hTb, fun H2 tb2 => ?_⟩
              obtain ⟨g2, k2⟩ := gt_tabbed hg hTb tb2
              have t2 := KG.tups hg k2
              have hb2 := t2 _ _ hbb
              have pb2 := L2.Paired.mapP pb fun _ _ z => BkAt.mono t2 z
              have qe : ∀ H', KG Ts H H' → Gt Ts H' → Q (.bl (bs.all blkB)) H' := fun H' k' g' => by
                have := q H' k' g'
                rw [show formB (.three w p (some bs)) = bs.all blkB by simp [formB, h1, h2, h3]] at this
                exact this
              refine GxA.gen_it (walk_tup (xs := us)) (fun i H' => H' = H2 ∧ (bs.take i).all blkB = true) ⟨rfl, rfl⟩ ?_ ?_ ?_
              · rintro i H' _ ⟨rfl, _⟩
                exact .of hb2
              · rintro i x H5 H6 hi ⟨rfl, al5⟩ ⟨rfl, hx⟩
                obtain ⟨b, hb, hat⟩ := prd_get' pb2 hx
                have etk : bs.take (i + 1) = bs.take i ++ [b] := by
                  rw [List.take_add_one, hb]
                  rfl
                refine ⟨rfl, tYes_go ⟨_, rfl, x, b, rfl, hat, hn2 b (List.mem_of_getElem? hb), _, rfl, ?_⟩⟩
                cases ea : blkB b with
                | true =>
                  refine ⟨rfl, ?_⟩
                  rw [etk, List.all_append, al5]
                  simp [ea]
                | false =>
                  have e : bs.all blkB = false := by
                    rw [List.all_eq_false]
                    exact ⟨b, List.mem_of_getElem? hb, by simp [ea]⟩
                  have := qe _ k2 g2
                  rw [e] at this
                  exact this
              · rintro H5 ⟨rfl, al5⟩
                rw [← lb, List.take_length] at al5
                have := qe _ k2 g2
                rw [al5] at this
                exact this
            · rw [decide_eq_false (show ¬ (1 : Int) ≤ ((us.length : Nat) : Int) by omega)]
              exact iteF ⟨_, rfl, iteT (q0 _ (by simp [formB, h3]))⟩
theorem ap_leaf {K : PySem.W.Frag} {b : Bool} {D : Ends} {σ : L2.St} {H : Hp} {fa : Addr} {xs : List Str} {c : Str} (h6 : σ[6]? = some (some (.ref fa))) (hf : H fa = some (.lst (xs.map V.str))) (hn : xs.length < 100)
    (k : ∀ H', (∀ z o, z ≠ fa → H z = some o → H' z = some o) → H' fa = some (.lst ((xs ++ if b = true then [c] else []).map V.str)) → D.nx σ H') : if b = true then tDrop (tBM K "list" rAppend (tVar 6) (tCons (tC (.str c)) tNil)) D σ H else tNext D σ H := by
  cases b with
  | false => exact iteF (k H (fun _ _ _ e => e) (by simpa using hf))
  | true =>
    refine iteT ?_
    refine ⟨_, h6, ?_⟩
    refine ⟨.inl ⟨rfl, _, .of hf⟩, fa, _, _, rfl, rfl, hf, by rw [List.length_map]; exact big (by omega), ?_⟩
    refine k _ (fun z o n e => by rw [upd_ne n]; exact e) ?_
    rw [upd_same, if_pos rfl, List.map_append]
    rfl
theorem inV_mapI (s : Int) : ∀ l : List Int, inV (.int s) (l.map V.int) = decide (s ∈ l)
  | [] => rfl
  | x :: l => by
    show (eqV (.int x) (.int s) || inV (.int s) (l.map V.int)) = _
    rw [inV_mapI s l]
    by_cases e : x = s
    · subst e
      rw [show eqV (.int x) (.int x) = true from by simp [eqV], decide_eq_true (List.mem_cons_self ..)]
      rfl
    · rw [show eqV (.int x) (.int s) = false from by simp [eqV, e], Bool.false_or]
      exact decide_eq_decide.mpr ⟨fun h => List.mem_cons_of_mem _ h, fun h => by
        rcases List.mem_cons.mp h with h | h
        · exact absurd h.symm e
        · exact h⟩
theorem flatI (l : List Int) : (l.map V.int).all flatV = true := by
  rw [List.all_map, List.all_eq_true]
  exact fun _ _ => rfl
theorem all_stm {W : Nat} {Ts : List Addr} {Tb bd : Addr} (hTb : Tb ∈ Ts) {H : Hp} {us : List V} {body : List Ed} (hg : Gt Ts H) (hbd : H bd = some (.tup us)) (pv : Paired (EdAt H) body us) (hW : W ≤ 16) {y1 y2 y3 y5 y6 y7 y8 y9 : Option V} {Q : VK}
    (q : ∀ H', KG Ts H H' → Gt Ts H' → Q (.bl (body.all (stB W))) H') : GxA.tGen Tb true (iTup K (tVar 4)) (gName 8) tYes (tCall (spIs Ts) [] E0 (tCons (tVar 0) (tCons (tVar 8) tNil))) [8] [some (.int (W : Int)), y1, y2, y3, some (.ref bd), y5, y6, y7, y8, y9] H Q := by
  refine ⟨_, rfl, bd, rfl, ⟨_, .of hbd⟩, hg Tb hTb, fun H2 tb2 => ?_⟩
  obtain ⟨g2, k2⟩ := gt_tabbed hg hTb tb2
  have t2 := KG.tups hg k2
  have hb2 := t2 _ _ hbd
  have pv2 := L2.Paired.mapP pv fun _ _ z => EdAt.mono t2 z
  have lv := pv.length
  refine GxA.gen_it (walk_tup (xs := us)) (fun i H' => KG Ts H2 H' ∧ Gt Ts H' ∧ (body.take i).all (stB W) = true) ⟨KG.refl _ _, g2, rfl⟩ ?_ ?_ ?_
  · rintro i H' _ ⟨k', _⟩
    exact .of (KG.tups g2 k' _ _ hb2)
  · rintro i x H5 H6 hi ⟨k5, g5, al5⟩ ⟨rfl, hx⟩
    obtain ⟨a, ha, hat⟩ := prd_get' pv2 hx
    have etk : body.take (i + 1) = body.take i ++ [a] := by
      rw [List.take_add_one, ha]
      rfl
    refine ⟨rfl, tYes_go ⟨_, rfl, _, rfl, x, a, W, rfl, EdAt.mono (KG.tups g2 k5) hat, hW, g5, fun H7 k7 g7 => ⟨_, rfl, ?_⟩⟩⟩
    cases ea : stB W a with
    | true =>
      refine ⟨k5.trans k7, g7, ?_⟩
      rw [etk, List.all_append, al5]
      simp [ea]
    | false =>
      have e : body.all (stB W) = false := by
        rw [List.all_eq_false]
        exact ⟨a, List.mem_of_getElem? ha, by simp [ea]⟩
      have := q H7 ((k2.trans k5).trans k7) g7
      rw [e] at this
      exact this
  · rintro H5 ⟨k5, g5, al5⟩
    rw [← lv, List.take_length] at al5
    have := q H5 (k2.trans k5) g5
    rw [al5] at this
    exact this
theorem if_all {W : Nat} {Ts : List Addr} {Tb bd : Addr} (hTb : Tb ∈ Ts) {H : Hp} {us : List V} {body : List Ed} (hg : Gt Ts H) (hbd : H bd = some (.tup us)) (pv : Paired (EdAt H) body us) (hW : W ≤ 16) {y1 y2 y3 y5 y6 y7 y8 y9 : Option V} {X Y R : TS} {D : Ends}
    (q : ∀ H', KG Ts H H' → Gt Ts H' → if (!body.all (stB W)) = true then X { D with nx := R D } [some (.int (W : Int)), y1, y2, y3, some (.ref bd), y5, y6, y7, y8, y9] H' else Y { D with nx := R D } [some (.int (W : Int)), y1, y2, y3, some (.ref bd), y5, y6, y7, y8, y9] H') :
    tSeq (tIfS (tNot (tB (GxA.tGen Tb true (iTup K (tVar 4)) (gName 8) tYes (tCall (spIs Ts) [] E0 (tCons (tVar 0) (tCons (tVar 8) tNil))) [8]))) X Y) R D [some (.int (W : Int)), y1, y2, y3, some (.ref bd), y5, y6, y7, y8, y9] H := by
  unfold tSeq tIfS tNot tB
  exact all_stm hTb hg hbd pv hW fun H' k g => ⟨_, rfl, q H' k g⟩
theorem any_way {Ts : List Addr} {Tb wa la : Addr} (hTb : Tb ∈ Ts) {H : Hp} {ws ls : List Int} (hg : Gt Ts H) (hwa : H wa = some (.tup (ws.map V.int))) (hla : H la = some (.lst (ls.map V.int))) {y0 y1 y3 y4 y5 y6 y8 y9 : Option V} {Q : VK}
    (q : ∀ H', KG Ts H H' → Gt Ts H' → Q (.bl (ws.any fun t => !decide (t ∈ ls))) H') : GxA.tGen Tb false (iTup K (tVar 7)) (gName 9) tYes (tOp (rIn K true) (tVar 9) (tVar 2)) [9] [y0, y1, some (.ref la), y3, y4, y5, y6, some (.ref wa), y8, y9] H Q := by
  refine ⟨_, rfl, wa, rfl, ⟨_, .of hwa⟩, hg Tb hTb, fun H2 tb2 => ?_⟩
  obtain ⟨g2, k2⟩ := gt_tabbed hg hTb tb2
  have hw2 := KG.tups hg k2 _ _ hwa
  have hl2 := KG.lst hg k2 hla
  have q2 := q H2 k2 g2
  refine GxA.gen_it (walk_tup (xs := ws.map V.int)) (fun i H' => H' = H2 ∧ ((ws.take i).any fun t => !decide (t ∈ ls)) = false) ⟨rfl, rfl⟩ ?_ ?_ ?_
  · rintro i H' _ ⟨rfl, _⟩
    exact .of hw2
  · rintro i x H5 H6 hi ⟨rfl, al5⟩ ⟨rfl, hx⟩
    rw [List.getElem?_map] at hx
    obtain ⟨t, ht, rfl⟩ := Option.map_eq_some_iff.mp hx
    have etk : ws.take (i + 1) = ws.take i ++ [t] := by
      rw [List.take_add_one, ht]
      rfl
    refine ⟨rfl, tYes_go ⟨_, rfl, _, rfl, la, _, rfl, .inl (.of hl2), rfl, flatI ls, _, rfl, ?_⟩⟩
    show if (!inV (.int t) (ls.map V.int)) = false then _ else _
    rw [inV_mapI]
    cases ea : decide (t ∈ ls) with
    | true =>
      refine ⟨rfl, ?_⟩
      rw [etk, List.any_append, al5]
      simp only [List.any_cons, List.any_nil, ea]
      rfl
    | false =>
      have e : (ws.any fun t => !decide (t ∈ ls)) = true := by
        rw [List.any_eq_true]
        exact ⟨t, List.mem_of_getElem? ht, by rw [ea]; rfl⟩
      rw [e] at q2
      exact q2
  · rintro H5 ⟨rfl, al5⟩
    rw [List.length_map, List.take_length] at al5
    rw [al5] at q2
    exact q2
theorem if_any {Ts : List Addr} {Tb wa la : Addr} (hTb : Tb ∈ Ts) {H : Hp} {ws ls : List Int} (hg : Gt Ts H) (hwa : H wa = some (.tup (ws.map V.int))) (hla : H la = some (.lst (ls.map V.int))) {y0 y1 y3 y4 y5 y6 y8 y9 : Option V} {X Y R : TS} {D : Ends}
    (q : ∀ H', KG Ts H H' → Gt Ts H' → if (ws.any fun t => !decide (t ∈ ls)) = true then X { D with nx := R D } [y0, y1, some (.ref la), y3, y4, y5, y6, some (.ref wa), y8, y9] H' else Y { D with nx := R D } [y0, y1, some (.ref la), y3, y4, y5, y6, some (.ref wa), y8, y9] H') :
    tSeq (tIfS (tB (GxA.tGen Tb false (iTup K (tVar 7)) (gName 9) tYes (tOp (rIn K true) (tVar 9) (tVar 2)) [9])) X Y) R D [y0, y1, some (.ref la), y3, y4, y5, y6, some (.ref wa), y8, y9] H := by
  unfold tSeq tIfS tB
  exact any_way hTb hg hwa hla fun H' k g => ⟨_, rfl, q H' k g⟩
theorem KG.free {Ts : List Addr} {H H' : Hp} {r : Addr} (k : KG Ts H H') (g : Gt Ts H') (h : H' r = none) : H r = none := by
  cases e : H r with
  | none => rfl
  | some o =>
    by_cases n : r ∈ Ts
    · obtain ⟨ps, e1, _⟩ := g r n
      rw [h] at e1
      cases e1
    · have := k r o e n
      rw [h] at this
      cases this
theorem len1 {xs : List Str} {b : Bool} {c : Str} {n : Nat} (h : xs.length ≤ n) : (xs ++ if b = true then [c] else []).length ≤ n + 1 := by
  rw [List.length_append]
  split
  · show xs.length + 1 ≤ n + 1
    omega
  · show xs.length + 0 ≤ n + 1
    omega
theorem map_end (xs : List Str) (c : Str) : some (HO.lst (xs.map V.str ++ [V.str c])) = some (HO.lst ((xs ++ [c]).map V.str)) := by
  rw [List.map_append]
  rfl
theorem codes_row (W : Nat) (ls : List Int) (l fin : Ed) (body : List Ed) : codes W ls (.row l body fin) = (if 1 < ls.count (valI l) then [("twice" : Str)] else []) ++ ((if body.all (stB W) then [] else [("statement" : Str)]) ++
      (if endB W fin then (if (sucs fin).all (fun t => decide (t ∈ ls)) then [] else [("target" : Str)]) ++ (if ls.headD 0 ∈ sucs fin then [("entry" : Str)] else []) else [("end" : Str)])) := rfl
theorem codes0 {W : Nat} {l0 : Int} {ls : List Int} {l fin : Ed} {body : List Ed} (hE : endB W fin = false) : ((([] ++ if decide ((1 : Int) < (((l0 :: ls).count (valI l) : Nat) : Int)) = true then [("twice" : Str)] else []) ++ if (!body.all (stB W)) = true then [("statement" : Str)] else []) ++ [("end" : Str)]) = codes W (l0 :: ls) (.row l body fin) := by
  rw [codes_row, hE]
  have e : (decide ((1 : Int) < (((l0 :: ls).count (valI l) : Nat) : Int)) = true) = (1 < (l0 :: ls).count (valI l)) := by
    rw [decide_eq_true_eq]
    exact propext ⟨fun h => by omega, fun h => by omega⟩
  simp only [e]
  cases body.all (stB W) <;> by_cases h : 1 < (l0 :: ls).count (valI l) <;> simp [h]
theorem codes1 {W : Nat} {l0 : Int} {ls : List Int} {l fin : Ed} {body : List Ed} (hE : endB W fin = true) : (((([] ++ if decide ((1 : Int) < (((l0 :: ls).count (valI l) : Nat) : Int)) = true then [("twice" : Str)] else []) ++ if (!body.all (stB W)) = true then [("statement" : Str)] else []) ++
    if ((sucs fin).any fun t => !decide (t ∈ l0 :: ls)) = true then [("target" : Str)] else []) ++ if decide (l0 ∈ sucs fin) = true then [("entry" : Str)] else []) = codes W (l0 :: ls) (.row l body fin) := by
  rw [codes_row, hE]
  have e : (decide ((1 : Int) < (((l0 :: ls).count (valI l) : Nat) : Int)) = true) = (1 < (l0 :: ls).count (valI l)) := by
    rw [decide_eq_true_eq]
    exact propext ⟨fun h => by omega, fun h => by omega⟩
  have e2 : ((sucs fin).any fun t => !decide (t ∈ l0 :: ls)) = !((sucs fin).all fun t => decide (t ∈ l0 :: ls)) := by
    rw [List.not_all_eq_any_not]
  rw [e2]
  simp only [e, List.headD_cons, decide_eq_true_eq]
  generalize ((sucs fin).all fun t => decide (t ∈ l0 :: ls)) = c2
  generalize body.all (stB W) = c3
  cases c2 <;> cases c3 <;> by_cases h : 1 < (l0 :: ls).count (valI l) <;> by_cases h5 : l0 ∈ sucs fin <;> simp [h, h5]
theorem ok_bf {f cI Tb : Addr} {fd : FuncData} {Ts : List Addr} (F : GxA.FunC K "_block_faults" "_block_faults" sBF f cI fd) (m_all : mg "all" = none) (m_any : mg "any" = none) (TB : GxR.TabB base mg cI Tb)
    (GS : Got P w K mg base 45 "_is_statement" ["width", "value"] (spIs Ts)) (GE : Got P w K mg base 45 "_is_end" ["width", "value"] (spIn Ts)) (GU : Got P w K mg base 1 "successors" ["block"] spSu) (hTb : Tb ∈ Ts) : FnOk P w K mg base CX0 47 f fd ["width", "block", "labels"] (spBf Ts) := by
  obtain ⟨fIS, fdIS, GIS, mIS, kIS, bIS⟩ := GS.ex
  obtain ⟨fIN, fdIN, GIN, mIN, kIN, bIN⟩ := GE.ex
  obtain ⟨fSU, fdSU, GSU, mSU, kSU, bSU⟩ := GU.ex
  refine F.ok scBf (fun vs H Q E h => ?_) (fun A outer s H vs Q E hr h => ?_)
  · obtain ⟨v, la, b, W, l0, ls, rfl, _⟩ := h
    rfl
  · obtain ⟨v, la, b, W, l0, ls, rfl, hb, hv, hW, hla, hg, q⟩ := h
    have nd := scBf.nd
    have hrU : Room 1 _ := hr.mono (by omega)
    have hrN : Room 45 _ := hr.mono (by omega)
    have hrG : Room 46 _ := hr
    refine ⟨_, (pss_cons (ps_asg (pv 1) (pg_tup rfl (pgs_cons (pg_name (i := 3) nd rfl (.inl rfl)) (pgs_cons (pg_name (i := 4) nd rfl (.inl rfl)) (pgs_cons (pg_name (i := 5) nd rfl (.inl rfl)) pgs_nil)))))
 (pss_cons (ps_set (i := 6) nd rfl (.inl rfl) (pe_lst pa_nil))
 (pss_cons (ps_if (pt_cmpR op_gt (pe_bm (r := rCntI K) PySem.F.plainAttrs_list PySem.F.slot_list_count rfl mt_lcount (pv 2) (pa_cons (pv 3) pa_nil)) pe_int (nomark _)) (pss_one (ps_expr (pe_bm PySem.F.plainAttrs_list PySem.F.slot_list_append PySem.F.type_list_append mt_append (pv 6) (pa_cons pe_str pa_nil)))) pss_nil)
 (pss_cons (ps_if (pt_not (pt_val (GxA.pe_allG (k := 45) (own := [("item", 8)]) (g := (gName 8)) (tt := tYes) hrG rfl (by rfl) m_all TB rfl nd (GxA.genOk_by (N := NBf) (sc := defScope sBF) (by decide +kernel)) (pi_tup (pv 4)) (fun _ _ _ _ _ _ => (pg_name (i := 8) nd rfl (.inl rfl))) (fun _ _ _ _ _ _ _ => pts_nil) (fun _ _ _ _ _ _ hrE => (pe_call GIS hrE (by rfl) mIS kIS bIS .nil pass0 (pa_cons (pv 0) (pa_cons (pv 8) pa_nil))))))) (pss_one (ps_expr (pe_bm PySem.F.plainAttrs_list PySem.F.slot_list_append PySem.F.type_list_append mt_append (pv 6) (pa_cons pe_str pa_nil)))) pss_nil)
 (pss_cons (ps_if (pt_not (pt_val (pe_call GIN hrN (by rfl) mIN kIN bIN .nil pass0 (pa_cons (pv 0) (pa_cons (pv 5) pa_nil))))) (pss_one (ps_ret (pe_lst (StX.pa_star (pv 6) (pa_cons pe_str pa_nil))))) pss_nil)
 (pss_cons (ps_set (i := 7) nd rfl (.inl rfl) (pe_call GSU hrU (by rfl) mSU kSU bSU .nil pass0 (pa_cons (pv 1) pa_nil)))
 (pss_cons (ps_if (pt_val (GxA.pe_anyG (k := 45) (own := [("way", 9)]) (g := (gName 9)) (tt := tYes) hrG rfl (by rfl) m_any TB rfl nd (GxA.genOk_by (N := NBf) (sc := defScope sBF) (by decide +kernel)) (pi_tup (pv 7)) (fun _ _ _ _ _ _ => (pg_name (i := 9) nd rfl (.inl rfl))) (fun _ _ _ _ _ _ _ => pts_nil) (fun _ _ _ _ _ _ hrE => (pe_cmpR (r := rIn K true) op_notIn_seq (pv 9) (pv 2) rfl)))) (pss_one (ps_expr (pe_bm PySem.F.plainAttrs_list PySem.F.slot_list_append PySem.F.type_list_append mt_append (pv 6) (pa_cons pe_str pa_nil)))) pss_nil)
 (pss_cons (ps_if (pt_cmpR (r := rIn K false) op_in_seq (pe_ix (r := rIxL K) ix_list (pv 2) pe_int (fun _ _ => rfl)) (pv 7) rfl) (pss_one (ps_expr (pe_bm PySem.F.plainAttrs_list PySem.F.slot_list_append PySem.F.type_list_append mt_append (pv 6) (pa_cons pe_str pa_nil)))) pss_nil)
 (pss_one (ps_ret (pv 6))))))))))), ?_⟩
    cases b with
    | non => cases hv
    | row l body fin =>
      obtain ⟨a, bd, lv, fv, us, rfl, ha, hl, hbd, pu, hf⟩ := hb
      have hv : (inI l 0 999 && isT fin) = true := hv
      rw [Bool.and_eq_true] at hv
      have hl : lv = .int (valI l) := by rw [in_val hv.1] at hl; exact hl
      subst hl
      refine ⟨_, rfl, a, _, rfl, .of ha, rfl, _, _, rfl, _, _, rfl, _, _, rfl, rfl, ?_⟩
      refine ⟨Nat.zero_le _, fun fa hfa => ?_⟩
      have s0 := same_new (o := .lst []) hfa
      have hf0 : (upd H fa (.lst [])) fa = some (.lst (([] : List Str).map V.str)) := upd_same
      generalize upd H fa (.lst []) = H0 at s0 hf0 ⊢
      have g0 := hg.same s0
      have k0 : KG Ts H H0 := KG.of s0
      have nfa : fa ∉ Ts := g0.not hf0 fun _ z => by cases z
      have ol : ∀ {A B : Hp}, KG Ts H A → (∀ z o, z ≠ fa → A z = some o → B z = some o) → KG Ts H B := fun kA n b o e nb => n _ _ (fun z => by rw [z, hfa] at e; cases e) (kA b o e nb)
      have og : ∀ {A B : Hp}, Gt Ts A → (∀ z o, z ≠ fa → A z = some o → B z = some o) → Gt Ts B := fun gA n T hT => by
        obtain ⟨ps, e1, e2⟩ := gA T hT
        exact ⟨ps, n _ _ (fun z => nfa (z ▸ hT)) e1, e2⟩
      refine ⟨_, rfl, .inl ⟨rfl, _, .of (s0 _ _ hla)⟩, _, rfl, la, (l0 :: ls), _, rfl, rfl, .of (s0 _ _ hla), _, _, rfl, rfl, _, rfl, ap_leaf (fa := fa) (xs := []) rfl hf0 (by decide) fun H1 n1 hf1 => ?_⟩
      have k1 := ol k0 n1
      have g1 := og g0 n1
      have t1 := KG.tups hg k1
      refine if_all hTb g1 (t1 _ _ hbd) (L2.Paired.mapP pu fun _ _ z => EdAt.mono t1 z) hW fun H2 k2 g2 => ?_
      have hf2 := KG.lst g1 k2 hf1
      refine ap_leaf (fa := fa) rfl hf2 (by split <;> decide) fun H3 n3 hf3 => ?_
      have k3 := ol (k1.trans k2) n3
      have g3 := og g2 n3
      have t3 := KG.tups hg k3
      refine ⟨_, rfl, _, rfl, fv, fin, W, rfl, EdAt.mono t3 hf, hW, g3, fun H4 k4 g4 => ⟨_, rfl, ?_⟩⟩
      have hf4 := KG.lst g3 k4 hf3
      have k04 := k3.trans k4
      cases hE : endB W fin with
      | false =>
        have ln := len1 (b := !body.all (stB W)) (c := ("statement" : Str)) (len1 (b := decide ((1 : Int) < (((l0 :: ls).count (valI l) : Nat) : Int))) (c := ("twice" : Str)) (xs := []) (n := 0) (Nat.le_refl _))
        refine iteT ⟨_, rfl, fa, _, rfl, .inr (.of hf4), ?_, fun r hr => ?_⟩
        · rw [List.length_append, List.length_map]
          exact Nat.le_of_lt (big (by have : ([V.str "end"] : List V).length = 1 := rfl; omega))
        · have sr := same_new (o := .lst ((([] ++ if decide ((1 : Int) < (((l0 :: ls).count (valI l) : Nat) : Int)) = true then [("twice" : Str)] else []) ++ if (!body.all (stB W)) = true then [("statement" : Str)] else []).map V.str ++ [V.str "end"])) hr
          refine q r _ (k04.trans (KG.of sr)) (g4.same sr) (KG.free k04 g4 hr) ?_
          rw [upd_same, ← codes0 hE]
          exact map_end _ _
      | true =>
        refine iteF ⟨_, rfl, a, bd, _, fv, fin, W, rfl, KG.tups hg k04 _ _ ha, EdAt.mono (KG.tups hg k04) hf, hE, fun wa H5 s5 hwa => ?_⟩
        have g5 := g4.same s5
        have k5 : KG Ts H H5 := k04.trans (KG.of s5)
        have hf5 := s5 _ _ hf4
        refine if_any hTb g5 hwa (KG.lst hg k5 hla) fun H6 k6 g6 => ?_
        have hf6 := KG.lst g5 k6 hf5
        have ln := len1 (b := !body.all (stB W)) (c := ("statement" : Str)) (len1 (b := decide ((1 : Int) < (((l0 :: ls).count (valI l) : Nat) : Int))) (c := ("twice" : Str)) (xs := []) (n := 0) (Nat.le_refl _))
        refine ap_leaf (fa := fa) rfl hf6 (by omega) fun H7 n7 hf7 => ?_
        have k7 := ol (k5.trans k6) n7
        have g7 := og g6 n7
        have hla7 := KG.lst hg k7 hla
        have hwa7 : H7 wa = some (.tup ((sucs fin).map V.int)) := n7 _ _ (fun z => by
          have := KG.tups g5 k6 _ _ hwa
          rw [z, hf6] at this
          cases this) (KG.tups g5 k6 _ _ hwa)
        refine ⟨_, rfl, la, _, _, _, rfl, rfl, .of hla7, atI_nat (j := 0) rfl, _, rfl, wa, _, rfl, .inr (.of hwa7), rfl, flatI _, _, rfl, ?_⟩
        show if inV (.int l0) ((sucs fin).map V.int) = true then _ else _
        rw [inV_mapI]
        have ln2 := len1 (b := ((sucs fin).any fun t => !decide (t ∈ l0 :: ls))) (c := ("target" : Str)) ln
        refine ap_leaf (fa := fa) rfl hf7 (by omega) fun H8 n8 hf8 => ?_
        refine ⟨_, rfl, q fa H8 (ol k7 n8) (og g7 n8) hfa ?_⟩
        rw [← codes1 hE]
        exact hf8
end
end K0

set_option Elab.async false
set_option linter.all false
set_option maxRecDepth 100000
set_option maxHeartbeats 1000000
namespace K0
open PySem L2
open PySem.W (dataLt dataLe)
def pD (p : Int × Str) : PyData := .tuple [.int p.1, .str p.2]
def ltP (p q : Int × Str) : Prop := dataLt (pD p) (pD q) = true
theorem ltP_eq (p q : Int × Str) : dataLt (pD p) (pD q) = if p.1 = q.1 then decide (p.2.cps.toList < q.2.cps.toList) else decide (p.1 < q.1) := by
  have h := PySem.W.DatumOrd.lt_eq (α := Int × Str) p q
  refine Eq.trans h ?_
  by_cases e : p.1 = q.1
  · rw [if_pos e]
    show (if p.1 = q.1 then _ else _) = _
    rw [if_pos e]
    rfl
  · rw [if_neg e]
    show (if p.1 = q.1 then _ else _) = _
    rw [if_neg e]
    rfl
theorem ltP_irr (p : Int × Str) : ¬ ltP p p := fun h => by
  have := PySem.W.dataLt_self (pD p)
  unfold ltP at h
  rw [this] at h
  cases h
theorem dl_trans {a b c : PyData} (h1 : dataLt a b = true) (h2 : dataLt b c = true) : dataLt a c = true := PyProof.Rows.lex_trans _ _ _ h1 h2
theorem dl_neg {a c : PyData} (b : PyData) (h : dataLt a c = true) : dataLt a b = true ∨ dataLt b c = true := PyProof.Rows.lex_negTrans _ _ _ h
theorem ltP_tot {p q : Int × Str} (h1 : ¬ ltP p q) (h2 : ¬ ltP q p) : p = q := by
  unfold ltP at h1 h2
  rw [ltP_eq] at h1 h2
  obtain ⟨a, b⟩ := p
  obtain ⟨c, d⟩ := q
  by_cases e : a = c
  · subst e
    rw [if_pos rfl, decide_eq_true_eq] at h1 h2
    have : b.cps.toList = d.cps.toList := List.le_antisymm (List.not_lt.mp h2) (List.not_lt.mp h1)
    obtain ⟨b⟩ := b
    obtain ⟨d⟩ := d
    have : b = d := Array.toList_inj.mp this
    rw [this]
  · have h1 : ¬ (if a = c then _ else decide (a < c)) = true := h1
    have h2 : ¬ (if c = a then _ else decide (c < a)) = true := h2
    rw [if_neg e, decide_eq_true_eq] at h1
    rw [if_neg (fun z => e z.symm), decide_eq_true_eq] at h2
    omega
theorem ltP_asym {p q : Int × Str} (h1 : ltP p q) (h2 : ltP q p) : False := ltP_irr p (dl_trans h1 h2)
/-- strictly sorted lists with one and the same members are alike -/
theorem uniq : ∀ {L M : List (Int × Str)}, L.Pairwise ltP → M.Pairwise ltP → (∀ p, p ∈ L ↔ p ∈ M) → L = M
  | [], [], _, _, _ => rfl
  | [], y :: M, _, _, h => by have := (h y).mpr (List.mem_cons_self ..); cases this
  | x :: L, [], _, _, h => by have := (h x).mp (List.mem_cons_self ..); cases this
  | x :: L, y :: M, hL, hM, h => by
    rw [List.pairwise_cons] at hL hM
    have e : x = y := by
      rcases List.mem_cons.mp ((h x).mp (List.mem_cons_self ..)) with e | h1
      · exact e
      · rcases List.mem_cons.mp ((h y).mpr (List.mem_cons_self ..)) with e | h2
        · exact e.symm
        · exact (ltP_asym (hL.1 y h2) (hM.1 x h1)).elim
    subst e
    rw [uniq hL.2 hM.2 fun p => ⟨fun hp => ?_, fun hp => ?_⟩]
    · rcases List.mem_cons.mp ((h p).mp (List.mem_cons_of_mem _ hp)) with e | h1
      · exact (ltP_irr x (e ▸ hL.1 p hp)).elim
      · exact h1
    · rcases List.mem_cons.mp ((h p).mpr (List.mem_cons_of_mem _ hp)) with e | h1
      · exact (ltP_irr x (e ▸ hM.1 p hp)).elim
      · exact h1
theorem sortD {β : Type} (k : β → PyData) (l : List β) : (l.mergeSort (dataLe false k)).Pairwise (fun a b => dataLt (k b) (k a) = false) := by
  have h := List.pairwise_mergeSort (le := dataLe false k) (fun a b c h1 h2 => ?_) (fun a b => ?_) l
  · refine h.imp fun {a b} z => ?_
    rw [PySem.W.dataLe_eq] at z
    have z : (!dataLt (k b) (k a)) = true := z
    simpa using z
  · rw [PySem.W.dataLe_eq] at h1 h2 ⊢
    have h1 : (!dataLt (k b) (k a)) = true := h1
    have h2 : (!dataLt (k c) (k b)) = true := h2
    show (!dataLt (k c) (k a)) = true
    cases e : dataLt (k c) (k a) with
    | false => rfl
    | true =>
      rcases dl_neg (k b) e with z | z
      · rw [z] at h2; cases h2
      · rw [z] at h1; cases h1
  · rw [PySem.W.dataLe_eq]
    show ((!dataLt (k b) (k a)) || (!dataLt (k a) (k b))) = true
    cases e1 : dataLt (k b) (k a) with
    | false => rfl
    | true =>
      cases e2 : dataLt (k a) (k b) with
      | false => rfl
      | true =>
        have := dl_trans e1 e2
        rw [PySem.W.dataLt_self] at this
        cases this
/-- neighbours that are alike, left out -/
def dd : Option (Int × Str) → List (Int × Str) → List (Int × Str)
  | _, [] => []
  | none, x :: r => x :: dd (some x) r
  | some y, x :: r => if x = y then dd (some x) r else x :: dd (some x) r
theorem dd_mem : ∀ (o : Option (Int × Str)) (l : List (Int × Str)) (p : Int × Str), p ∈ l → p ∈ dd o l ∨ o = some p
  | _, [], p, h => by cases h
  | none, x :: r, p, h => by
    left
    show p ∈ x :: dd (some x) r
    rcases List.mem_cons.mp h with rfl | h
    · exact List.mem_cons_self ..
    · rcases dd_mem (some x) r p h with h | h
      · exact List.mem_cons_of_mem _ h
      · cases h
        exact List.mem_cons_self ..
  | some y, x :: r, p, h => by
    show p ∈ (if x = y then dd (some x) r else x :: dd (some x) r) ∨ _
    by_cases e : x = y
    · rw [if_pos e]
      subst e
      rcases List.mem_cons.mp h with rfl | h
      · exact .inr rfl
      · exact dd_mem (some x) r p h
    · rw [if_neg e]
      left
      rcases List.mem_cons.mp h with rfl | h
      · exact List.mem_cons_self ..
      · rcases dd_mem (some x) r p h with h | h
        · exact List.mem_cons_of_mem _ h
        · cases h
          exact List.mem_cons_self ..
theorem dd_sub : ∀ (o : Option (Int × Str)) (l : List (Int × Str)) (p : Int × Str), p ∈ dd o l → p ∈ l
  | _, [], p, h => by cases h
  | none, x :: r, p, h => by
    rcases List.mem_cons.mp (show p ∈ x :: dd (some x) r from h) with rfl | h
    · exact List.mem_cons_self ..
    · exact List.mem_cons_of_mem _ (dd_sub _ r p h)
  | some y, x :: r, p, h => by
    have h : p ∈ (if x = y then dd (some x) r else x :: dd (some x) r) := h
    by_cases e : x = y
    · rw [if_pos e] at h
      exact List.mem_cons_of_mem _ (dd_sub _ r p h)
    · rw [if_neg e] at h
      rcases List.mem_cons.mp h with rfl | h
      · exact List.mem_cons_self ..
      · exact List.mem_cons_of_mem _ (dd_sub _ r p h)
/-- p ≤ q -/
def leP (p q : Int × Str) : Prop := dataLt (pD q) (pD p) = false
theorem lt_of_le {p q : Int × Str} (h : leP p q) (n : p ≠ q) : ltP p q := by
  by_cases z : ltP p q
  · exact z
  · refine absurd (ltP_tot z fun w => ?_) n
    unfold leP at h
    unfold ltP at w
    rw [h] at w
    cases w
theorem lt_le {p q r : Int × Str} (h : ltP p q) (h2 : leP q r) : ltP p r := by
  rcases dl_neg (pD r) h with z | z
  · exact z
  · unfold leP at h2
    rw [h2] at z
    cases z
theorem dd_sorted : ∀ (o : Option (Int × Str)) (l : List (Int × Str)), l.Pairwise leP → (∀ y, o = some y → ∀ q ∈ l, leP y q) → (dd o l).Pairwise ltP ∧ ∀ y, o = some y → ∀ q ∈ dd o l, ltP y q
  | _, [], _, _ => ⟨List.Pairwise.nil, fun _ _ q h => by cases h⟩
  | none, x :: r, hl, _ => by
    rw [List.pairwise_cons] at hl
    obtain ⟨h1, h2⟩ := dd_sorted (some x) r hl.2 (fun y e q hq => by cases e; exact hl.1 q hq)
    exact ⟨List.pairwise_cons.mpr ⟨fun q hq => h2 x rfl q hq, h1⟩, fun y e => by cases e⟩
  | some y, x :: r, hl, ho => by
    rw [List.pairwise_cons] at hl
    obtain ⟨h1, h2⟩ := dd_sorted (some x) r hl.2 (fun y e q hq => by cases e; exact hl.1 q hq)
    show (if x = y then dd (some x) r else x :: dd (some x) r).Pairwise ltP ∧ ∀ z, some y = some z → ∀ q ∈ (if x = y then dd (some x) r else x :: dd (some x) r), ltP z q
    by_cases e : x = y
    · rw [if_pos e]
      subst e
      exact ⟨h1, h2⟩
    · rw [if_neg e]
      have hyx : ltP y x := lt_of_le (ho y rfl x (List.mem_cons_self ..)) (fun z => e z.symm)
      refine ⟨List.pairwise_cons.mpr ⟨fun q hq => h2 x rfl q hq, h1⟩, fun z ez q hq => ?_⟩
      cases ez
      rcases List.mem_cons.mp hq with rfl | hq
      · exact hyx
      · exact dl_trans hyx (h2 x rfl q hq)
theorem dd_append : ∀ (o : Option (Int × Str)) (l : List (Int × Str)) (x : Int × Str), dd o (l ++ [x]) = dd o l ++ (if (match l.getLast? with | some y => some y | none => o) = some x then [] else [x])
  | none, [], x => rfl
  | some y, [], x => by
    show (if x = y then dd (some x) [] else x :: dd (some x) []) = _
    by_cases e : x = y
    · rw [if_pos e]
      subst e
      simp [dd]
    · rw [if_neg e]
      have : ¬ y = x := fun z => e z.symm
      simp [dd, this]
  | none, z :: r, x => by
    show z :: dd (some z) (r ++ [x]) = z :: dd (some z) r ++ _
    rw [dd_append (some z) r x, List.getLast?_cons]
    cases r.getLast? <;> simp
  | some y, z :: r, x => by
    show (if z = y then dd (some z) (r ++ [x]) else z :: dd (some z) (r ++ [x])) = (if z = y then dd (some z) r else z :: dd (some z) r) ++ _
    rw [dd_append (some z) r x, List.getLast?_cons]
    by_cases e : z = y
    · rw [if_pos e, if_pos e]
      cases r.getLast? <;> simp
    · rw [if_neg e, if_neg e]
      cases r.getLast? <;> simp
end K0

set_option Elab.async false
set_option linter.all false
set_option maxRecDepth 100000
set_option maxHeartbeats 1000000
namespace K0
open PySem L2
open PySem.W (dataLt dataLe)
/-- a pair as it stands in the heap -/
def PtP (H : Hp) (p : Int × Str) (v : V) : Prop := ∃ a, v = .ref a ∧ H a = some (.tup [.int p.1, .str p.2])
theorem PtP.mono {H H' : Hp} (t : Tups H H') {p : Int × Str} {v : V} (h : PtP H p v) : PtP H' p v := by
  obtain ⟨a, e1, e2⟩ := h
  exact ⟨a, e1, t _ _ e2⟩
def unD : PyData → Int × Str
  | .tuple [.int i, .str s] => (i, s)
  | _ => (0, "")
theorem un_pD (p : Int × Str) : unD (pD p) = p := rfl
theorem all_alike (ps : List (Int × Str)) : PySem.W.AllAlike (ps.map pD) := PySem.W.AllAlike.of (enc := pD) fun a b => PySem.W.DatumOrd.alike (α := Int × Str) a b
theorem all_sortable (ps : List (Int × Str)) : PySem.W.Sortable (ps.map pD) := PySem.W.Sortable.tuples (enc := pD) fun p => ⟨_, _, rfl⟩
theorem pickP {H : Hp} : ∀ (S : List (V × PyData)), (∀ z ∈ S, ∃ p, PtP H p z.1 ∧ z.2 = pD p) → ∃ L, Paired (PtP H) L (S.map Prod.fst) ∧ S.map Prod.snd = L.map pD
  | [], _ => ⟨[], .nil, rfl⟩
  | z :: S, h => by
    obtain ⟨p, h1, h2⟩ := h z (List.mem_cons_self ..)
    obtain ⟨L, h3, h4⟩ := pickP S fun y hy => h y (List.mem_cons_of_mem _ hy)
    exact ⟨p :: L, .cons h1 h3, by rw [List.map_cons, List.map_cons, h2, h4]⟩
theorem srt_res {H : Hp} {ps : List (Int × Str)} {xs : List V} (hz : ∀ z ∈ xs.zip (ps.map pD), ∃ p, PtP H p z.1 ∧ z.2 = pD p) (hl : xs.length = ps.length) :
    ∃ L, L.Perm ps ∧ L.Pairwise leP ∧ Paired (PtP H) L ((GxA.srtD xs (ps.map pD)).map Prod.fst) := by
  have hp : (GxA.srtD xs (ps.map pD)).Perm (xs.zip (ps.map pD)) := List.mergeSort_perm _ _
  obtain ⟨L, h1, h2⟩ := pickP (H := H) (GxA.srtD xs (ps.map pD)) fun z h => hz z (hp.mem_iff.mp h)
  refine ⟨L, ?_, ?_, h1⟩
  · have h3 : ((GxA.srtD xs (ps.map pD)).map Prod.snd).Perm ((xs.zip (ps.map pD)).map Prod.snd) := hp.map _
    rw [h2, List.map_snd_zip (by rw [List.length_map]; omega)] at h3
    have h4 := h3.map unD
    rw [List.map_map, List.map_map] at h4
    rw [show (unD ∘ pD) = id from funext un_pD, List.map_id, List.map_id] at h4
    exact h4
  · have h3 := sortD Prod.snd (xs.zip (ps.map pD))
    have h4 : ((GxA.srtD xs (ps.map pD)).map Prod.snd).Pairwise (fun a b => dataLt b a = false) := List.pairwise_map.mpr h3
    rw [h2] at h4
    have h5 : L.Pairwise (fun a b => dataLt (pD b) (pD a) = false) := List.pairwise_map.mp h4
    exact h5
theorem zip_pairs {H : Hp} : ∀ {ps : List (Int × Str)} {xs : List V}, Paired (PtP H) ps xs → ∀ z ∈ xs.zip (ps.map pD), ∃ p, PtP H p z.1 ∧ z.2 = pD p
  | _, _, .nil, z, h => by cases h
  | _, _, .cons (a := p) a t, z, h => by
    rcases List.mem_cons.mp h with rfl | h
    · exact ⟨p, a, rfl⟩
    · exact zip_pairs t z h
/-- strictly sorted, when no member stands twice -/
theorem strict : ∀ {L : List (Int × Str)}, L.Pairwise leP → L.Nodup → L.Pairwise ltP
  | [], _, _ => List.Pairwise.nil
  | x :: L, h, n => by
    rw [List.pairwise_cons] at h
    rw [List.nodup_cons] at n
    exact List.pairwise_cons.mpr ⟨fun q hq => lt_of_le (h.1 q hq) (fun e => n.1 (e ▸ hq)), strict h.2 n.2⟩
/-- the dict of faults -/
def kP (p : Int × Str) : List Key := [.inl p.1, .inr p.2]
theorem kP_inj {p q : Int × Str} (h : kP p = kP q) : p = q := by
  obtain ⟨a, b⟩ := p
  obtain ⟨c, d⟩ := q
  simp only [kP, List.cons.injEq, Sum.inl.injEq, Sum.inr.injEq, and_true] at h
  rw [h.1, h.2]
def kvP (ps : List (Int × Str)) : List (List Key × V) := ps.map fun p => (kP p, V.bl true)
def addP (ps : List (Int × Str)) (p : Int × Str) : List (Int × Str) := if p ∈ ps then ps else ps ++ [p]
theorem put_kvP (ps : List (Int × Str)) (p : Int × Str) : putK (kvP ps) (kP p) (V.bl true) = kvP (addP ps p) := by
  unfold putK addP
  have e : ((kvP ps).any fun kv => decide (kv.1 = kP p)) = decide (p ∈ ps) := by
    unfold kvP
    rw [List.any_map]
    induction ps with
    | nil => rfl
    | cons q ps ih =>
      rw [List.any_cons, ih]
      show (decide (kP q = kP p) || _) = _
      by_cases z : q = p
      · subst z
        rw [decide_eq_true rfl, decide_eq_true (List.mem_cons_self ..)]
        rfl
      · rw [decide_eq_false (fun w => z (kP_inj w)), Bool.false_or]
        exact decide_eq_decide.mpr ⟨fun h => List.mem_cons_of_mem _ h, fun h => by
          rcases List.mem_cons.mp h with h | h
          · exact absurd h.symm z
          · exact h⟩
  rw [e]
  by_cases h : p ∈ ps
  · rw [if_pos (decide_eq_true h), if_pos h]
    unfold kvP
    rw [List.map_map]
    refine List.map_congr_left fun q _ => ?_
    show (if kP q = kP p then (kP q, V.bl true) else (kP q, V.bl true)) = _
    split <;> rfl
  · rw [if_neg (by simp [h]), if_neg h]
    unfold kvP
    rw [List.map_append]
    rfl
theorem addP_mem {ps : List (Int × Str)} {p q : Int × Str} : q ∈ addP ps p ↔ q ∈ ps ∨ q = p := by
  unfold addP
  by_cases h : p ∈ ps
  · rw [if_pos h]
    exact ⟨.inl, fun z => z.elim id (fun e => e ▸ h)⟩
  · rw [if_neg h, List.mem_append, List.mem_singleton]
theorem addP_nd {ps : List (Int × Str)} {p : Int × Str} (n : ps.Nodup) : (addP ps p).Nodup := by
  unfold addP
  by_cases h : p ∈ ps
  · rw [if_pos h]; exact n
  · rw [if_neg h]
    exact List.nodup_append.mpr ⟨n, List.nodup_cons.mpr ⟨by simp, List.nodup_nil⟩, fun a ha b hb e => h (by rw [List.mem_singleton] at hb; rw [← hb, ← e]; exact ha)⟩
theorem addP_len {ps : List (Int × Str)} {p : Int × Str} : (addP ps p).length ≤ ps.length + 1 := by
  unfold addP
  split
  · omega
  · rw [List.length_append]; exact Nat.le_refl _
theorem ksD_kvP (ps : List (Int × Str)) : GxA.ksD (kvP ps) = ps.map pD := by
  unfold GxA.ksD kvP
  rw [List.map_map]
  rfl
theorem keys_pairs {H : Hp} : ∀ {ps : List (Int × Str)} {bs : List Addr}, IsKeys H (kvP ps) bs → Paired (PtP H) ps (bs.map V.ref)
  | [], [], _ => .nil
  | p :: ps, b :: bs, .cons a t => .cons ⟨b, rfl, a⟩ (keys_pairs t)
end K0

set_option Elab.async false
set_option linter.all false
set_option maxRecDepth 100000
set_option maxHeartbeats 1000000
namespace K0
open PySem L2
abbrev NFf : List Str := ["value", "labels", "found", "block", "code"]
def widI (w : Ed) : Nat := (valI w).toNat
/-- the faults as they are found -/
def bksF (W : Nat) (ls : List Int) (bs : List Bk) : List (Int × Str) := bs.flatMap fun b => (codes W ls b).map fun c => (labI b, c)
def rawF : Va → List (Int × Str)
  | .three w p (some bs) => if formB (.three w p (some bs)) then bksF (widI w) (bs.map labI) bs else [(-1, ("form" : Str))]
  | _ => [(-1, ("form" : Str))]
def LAt (H : Hp) (r : Addr) (L : List (Int × Str)) : Prop := ∃ vs, H r = some (.lst vs) ∧ Paired (PtP H) L vs
def IsDue (x : Va) (L : List (Int × Str)) : Prop := L.Pairwise ltP ∧ ∀ p, p ∈ L ↔ p ∈ rawF x
theorem isDue_form {x : Va} (h : rawF x = [(-1, ("form" : Str))]) : IsDue x [(-1, ("form" : Str))] := ⟨List.pairwise_cons.mpr ⟨fun _ z => (List.not_mem_nil z).elim, List.Pairwise.nil⟩, fun p => by rw [h]⟩
def spFf (Ts : List Addr) : Sp := fun vs H Q _ => ∃ (v : V) (x : Va), vs = [v] ∧ VaAt H x v ∧ x.small ∧ Gt Ts H ∧ ∀ r H' L, KG Ts H H' → Gt Ts H' → H r = none → LAt H' r L → IsDue x L → Q (.ref r) H'
theorem sput {H1 H2 : Hp} {D : Addr} {o : HO} (s : Same H1 H2) (hD : H1 D = none) : Same H1 (upd H2 D o) := fun b o' e => by
  rw [upd_ne (fun z => by rw [z, hD] at e; cases e)]
  exact s _ _ e
theorem codes_len (W : Nat) (ls : List Int) (b : Bk) : (codes W ls b).length ≤ 4 := by
  cases b with
  | non => exact Nat.zero_le _
  | row l body fin =>
    rw [codes_row]
    simp only [List.length_append]
    split <;> split <;> split <;> (try split) <;> (try split) <;> simp
theorem bksF_snoc (W : Nat) (ls : List Int) (bs : List Bk) (b : Bk) (p : Int × Str) : p ∈ bksF W ls (bs ++ [b]) ↔ p ∈ bksF W ls bs ∨ ∃ c ∈ codes W ls b, p = (labI b, c) := by
  unfold bksF
  rw [List.flatMap_append, List.mem_append, List.flatMap_singleton, List.mem_map]
  exact or_congr Iff.rfl ⟨fun ⟨c, h, e⟩ => ⟨c, h, e.symm⟩, fun ⟨c, h, e⟩ => ⟨c, h, e.symm⟩⟩
/-- the dict so far -/
def FdAt (H : Hp) (d : Addr) (n : Nat) (S : (Int × Str) → Prop) : Prop := ∃ ps : List (Int × Str), H d = some (.dT (kvP ps)) ∧ ps.Nodup ∧ (∀ p, p ∈ ps ↔ S p) ∧ ps.length ≤ n
section
variable {P : Program} {w : World} {K : PySem.W.Frag} {mg : Str → Option Value} {base : Heap}
theorem scFf : FnScope NFf ["value"] (defScope sFF) := ⟨rfl, rfl, rfl, by decide +kernel, rfl, by decide +kernel, by decide +kernel⟩
theorem ok_ff {f : Addr} {fd : FuncData} {Ts : List Addr} (F : Fun K "function_faults" "function_faults" sFF f fd) (m_sorted : mg "sorted" = none)
    (GH : Got P w K mg base 5 "_has_form" ["value"] (spHf Ts)) (GB : Got P w K mg base 47 "_block_faults" ["width", "block", "labels"] (spBf Ts)) : FnOk P w K mg base CX0 48 f fd ["value"] (spFf Ts) := by
  obtain ⟨fHF, fdHF, GHF, mHF, kHF, bHF⟩ := GH.ex
  obtain ⟨fBF, fdBF, GBF, mBF, kBF, bBF⟩ := GB.ex
  refine F.ok scFf (fun vs H Q E h => ?_) (fun cdv A outer s H vs Q E hr h => ?_)
  · obtain ⟨v, x, rfl, _⟩ := h
    rfl
  · obtain ⟨v, x, rfl, hx, hs, hg, q⟩ := h
    have nd := scFf.nd
    have hrF : Room 5 _ := hr.mono (by omega)
    have hrB : Room 47 _ := hr
    have hu40 : (A.deeper (PyProof.Rows.envOfC "function_faults" (defScope sFF) s.heap.objs.size f cdv)).units + 40 < cLine := by
      have := hr.un
      omega
    have hu1 : (A.deeper (PyProof.Rows.envOfC "function_faults" (defScope sFF) s.heap.objs.size f cdv)).units + 1 < cLine := by omega
    refine ⟨_, (pss_cons (ps_if (pt_not (pt_val (pe_call GHF hrF (by rfl) mHF kHF bHF .nil pass0 (pa_cons (pv 0) pa_nil)))) (pss_one (ps_ret (pe_lst (pa_cons (pe_tup (pa_cons (pe_un un_neg pe_int) (pa_cons pe_str pa_nil))) pa_nil)))) pss_nil)
 (pss_cons (ps_setLc (i := 1) (own := [("block", 3)]) (g := (gName 3)) (tt := tYes) (by rfl) nd rfl rfl (sw_true rfl rfl rfl (by decide +kernel)) (pi_tup (pe_ix (r := rIxT K) ix_tup (pv 0) pe_int (fun _ _ => rfl))) (blkOk_by (N := NFf) (sc := defScope sFF) (by decide +kernel)) (fun _ _ _ _ _ => (pg_name (i := 3) nd rfl (.inl rfl))) (fun _ _ _ _ _ => pts_nil) (fun _ _ _ _ _ => (pe_ix (r := rIxT K) ix_tup (pv 3) pe_int (fun _ _ => rfl))))
 (pss_cons (ps_set (i := 2) nd rfl (.inl rfl) pe_dnewT)
 (pss_cons (ps_for PassesOwn.never rfl (pi_tup (pe_ix (r := rIxT K) ix_tup (pv 0) pe_int (fun _ _ => rfl))) (pg_name (i := 3) nd rfl (.inl rfl)) (pss_one (ps_for PassesOwn.never rfl (pi_list (pe_call GBF hrB (by rfl) mBF kBF bBF .nil pass0 (pa_cons (pe_ix (r := rIxT K) ix_tup (pv 0) pe_int (fun _ _ => rfl)) (pa_cons (pv 3) (pa_cons (pv 1) pa_nil))))) (pg_name (i := 4) nd rfl (.inl rfl)) (pss_one (ps_asg pe_bl (pg_sub (pv 2) (pe_tup (pa_cons (pe_ix (r := rIxT K) ix_tup (pv 3) pe_int (fun _ _ => rfl)) (pa_cons (pv 4) pa_nil))) (set_dict hu1)))))))
 (pss_one (ps_ret (pe_callB (r := GxA.rSortedDT) (GxA.call_sortedDT rfl hu40) (by rfl) m_sorted (by decide +kernel) (pa_cons (pv 2) pa_nil)))))))), ?_⟩
    refine ⟨_, rfl, v, x, rfl, hx, hs, hg, fun H1 k1 g1 => ⟨_, rfl, ?_⟩⟩
    cases hf : formB x with
    | false =>
      have hr' : rawF x = [(-1, ("form" : Str))] := by
        cases x with
        | three w p bs =>
          cases bs with
          | none => rfl
          | some bs =>
            show (if formB _ then _ else _) = _
            rw [hf]
            rfl
        | _ => rfl
      refine iteT ⟨_, rfl, (by show 2 ≤ sizeLine; decide), fun ta hta => ⟨(by show 1 ≤ sizeLine; decide), fun r hr => ?_⟩⟩
      have s2 := same_new (o := .tup [.int (-1), .str ("form" : Str)]) hta
      have h2 : (upd H1 ta (.tup [.int (-1), .str ("form" : Str)])) ta = some (.tup [.int (-1), .str ("form" : Str)]) := upd_same
      have s3 := same_new (o := .lst [.ref ta]) hr
      have h3 : (upd (upd H1 ta (.tup [.int (-1), .str ("form" : Str)])) r (.lst [.ref ta])) r = some (.lst [.ref ta]) := upd_same
      have s13 := s2.trans s3
      exact q r _ _ (k1.trans (KG.of s13)) (g1.same s13) (KG.free (k1.trans (KG.of s2)) (g1.same s2) hr) ⟨_, h3, .cons ⟨ta, rfl, s3 _ _ h2⟩ .nil⟩ (isDue_form hr')
    | true =>
      cases x with
      | three w p bs =>
        cases bs with
        | none => cases hf
        | some bs =>
          have hf0 : (inI w 1 16 && (inI p 0 6 && (decide (1 ≤ bs.length) && bs.all blkB))) = true := hf
          simp only [Bool.and_eq_true, decide_eq_true_eq, List.all_eq_true] at hf0
          obtain ⟨hw1, _, hb1, hall⟩ := hf0
          obtain ⟨a, bb, wv, pv, us, rfl, ha, hw, hp, hbb, pb⟩ := hx
          have hwv : wv = .int ((widI w : Nat) : Int) ∧ widI w ≤ 16 := by
            have e := in_val hw1
            rw [e] at hw hw1
            simp only [inI, Bool.and_eq_true, decide_eq_true_eq] at hw1
            have hw : wv = .int (valI w) := hw
            unfold widI
            refine ⟨by rw [hw, Int.toNat_of_nonneg (by omega)], by omega⟩
          obtain ⟨rfl, hW⟩ := hwv
          have lb := pb.length
          obtain ⟨hs1, _⟩ : bs.length ≤ 40 ∧ ∀ b ∈ bs, bodyN b ≤ 60 := hs
          have t1 := KG.tups hg k1
          have at_ : ∀ {H' : Hp}, Tups H H' → ∀ i x, us[i]? = some x → ∃ l body fin xa yv zv, bs[i]? = some (Bk.row l body fin) ∧ x = .ref xa ∧ H' xa = some (.tup [.int (valI l), yv, zv]) ∧ BkAt H' (.row l body fin) x := fun t i x hx => by
            obtain ⟨b, hb, hat⟩ := prd_get' pb hx
            have hv := hall b (List.mem_of_getElem? hb)
            cases b with
            | non => cases hv
            | row l body fin =>
              have hat' := hat.mono t
              obtain ⟨xa, bd, lv, fv, ub, e1, e2, e3, e4, e5, e6⟩ := hat'
              have hv : (inI l 0 999 && isT fin) = true := hv
              rw [Bool.and_eq_true] at hv
              have el : lv = .int (valI l) := by rw [in_val hv.1] at e3; exact e3
              subst el
              exact ⟨l, body, fin, xa, _, _, hb, e1, e2, hat.mono t⟩
          refine iteF ⟨_, rfl, a, _, _, _, rfl, rfl, .of (t1 _ _ ha), atI_nat (j := 2) rfl, bb, rfl, ⟨_, .of (t1 _ _ hbb)⟩, fun D hD => lc_tup (xs := us) (fun i H' => H' D = some (.lst (((bs.take i).map labI).map V.int)) ∧ Same H1 H') ⟨upd_same, same_new hD⟩ ?_ ?_ ?_⟩
          · rintro i H' _ ⟨_, sm⟩
            exact .of (sm _ _ (t1 _ _ hbb))
          · rintro i x H2 hx ⟨hD2, s2⟩
            obtain ⟨l, body, fin, xa, yv, zv, hb, rfl, hxa, _⟩ := at_ (t1.trans (Tups.of s2)) i x hx
            have il : i < bs.length := (List.getElem?_eq_some_iff.mp hb).1
            have etk : bs.take (i + 1) = bs.take i ++ [.row l body fin] := by
              rw [List.take_add_one, hb]
              rfl
            refine ⟨rfl, tYes_go ⟨_, rfl, xa, _, _, _, rfl, rfl, .of hxa, atI_nat (j := 0) rfl, _, hD2, ?_, ?_, sput s2 hD⟩⟩
            · rw [List.length_map, List.length_map, List.length_take]
              exact big (by omega)
            · rw [upd_same, etk, List.map_append, List.map_append]
              rfl
          · rintro H2 ⟨hD2, s2⟩
            rw [← lb, List.take_length] at hD2
            have g2 := g1.same s2
            have k2 : KG Ts H H2 := k1.trans (KG.of s2)
            have fD := KG.free k1 g1 hD
            refine fun d hd => ?_
            have s3 := same_new (o := .dT []) hd
            have hd3 : (upd H2 d (.dT [])) d = some (.dT (kvP [])) := upd_same
            have fd := KG.free k2 g2 hd
            have g3 := g2.same s3
            have k3 : KG Ts H (upd H2 d (.dT [])) := k2.trans (KG.of s3)
            have hD3 := s3 _ _ hD2
            obtain ⟨l0, ls, els⟩ : ∃ l0 ls, bs.map labI = l0 :: ls := by
              cases bs with
              | nil => exact absurd hb1 (by decide)
              | cons b bs => exact ⟨_, _, rfl⟩
            rw [els] at hD3
            have nD : D ∉ Ts := g3.not hD3 fun _ z => by cases z
            have ndd : D ≠ d := fun z => by rw [z, hd] at hD2; cases hD2
            have nd' : d ∉ Ts := g3.not hd3 fun _ z => by cases z
            have start : FdAt (upd H2 d (.dT [])) d (4 * 0) (fun p => p ∈ bksF (widI w) (l0 :: ls) (bs.take 0)) := ⟨[], hd3, List.nodup_nil, fun p => Iff.rfl, Nat.le_refl _⟩
            have t3 := KG.tups hg k3
            show _
            generalize upd H2 d (.dT []) = H3 at s3 hd3 g3 k3 hD3 start t3 ⊢
            refine ⟨_, rfl, a, _, _, _, rfl, rfl, .of (t3 _ _ ha), atI_nat (j := 2) rfl, bb, rfl, ⟨_, .of (t3 _ _ hbb)⟩, for_tup (xs := us) (fun i σ H' => ∃ y3 y4, σ = [some (.ref a), some (.ref D), some (.ref d), y3, y4] ∧ KG Ts H H' ∧ Gt Ts H' ∧ H' D = some (.lst ((l0 :: ls).map V.int)) ∧ FdAt H' d (4 * i) (fun p => p ∈ bksF (widI w) (l0 :: ls) (bs.take i))) ⟨none, none, rfl, k3, g3, hD3, start⟩ ?_ ?_ ?_⟩
            · rintro i σ H' _ ⟨_, _, rfl, k', _⟩
              exact .of (KG.tups hg k' _ _ hbb)
            · rintro i x σ H4 hx ⟨y3, y4, rfl, k4, g4, hD4, ps, hd4, nd4, mem4, len4⟩
              have t4 := KG.tups hg k4
              obtain ⟨l, body, fin, xa, yv, zv, hb, rfl, hxa, hat⟩ := at_ t4 i x hx
              have il : i < bs.length := (List.getElem?_eq_some_iff.mp hb).1
              have etk : bs.take (i + 1) = bs.take i ++ [.row l body fin] := by
                rw [List.take_add_one, hb]
                rfl
              refine ⟨_, rfl, a, _, _, _, rfl, rfl, .of (t4 _ _ ha), atI_nat (j := 0) rfl, _, rfl, _, rfl, .ref xa, D, .row l body fin, widI w, l0, ls, rfl, hat, hall _ (List.mem_of_getElem? hb), hW, hD4, g4, fun r H5 k5 g5 fr hr => ?_⟩
              have k5' := k4.trans k5
              have t5 := KG.tups g4 k5
              have nr : r ∉ Ts := g5.not hr fun _ z => by cases z
              have nrd : r ≠ d := fun z => by
                have := k5 d _ hd4 nd'
                rw [← z, hr] at this
                cases this
              have clen := codes_len (widI w) (l0 :: ls) (.row l body fin)
              refine ⟨r, rfl, ⟨_, .of hr⟩, for_list (xs := (codes (widI w) (l0 :: ls) (.row l body fin)).map V.str) (fun j σ H' => ∃ y4, σ = [some (.ref a), some (.ref D), some (.ref d), some (.ref xa), y4] ∧ KG Ts H H' ∧ Gt Ts H' ∧ H' r = some (.lst ((codes (widI w) (l0 :: ls) (.row l body fin)).map V.str)) ∧ H' D = some (.lst ((l0 :: ls).map V.int)) ∧ H' xa = some (.tup [.int (valI l), yv, zv]) ∧
                FdAt H' d (4 * i + j) (fun p => p ∈ bksF (widI w) (l0 :: ls) (bs.take i) ∨ ∃ c ∈ (codes (widI w) (l0 :: ls) (.row l body fin)).take j, p = (valI l, c))) ⟨y4, rfl, k5', g5, hr, KG.lst g4 k5 hD4, t5 _ _ hxa, ps, k5 d _ hd4 nd', nd4, fun p => (mem4 p).trans ⟨.inl, fun z => z.elim id fun ⟨c, h, _⟩ => by cases h⟩, len4⟩ ?_ ?_ ?_⟩
              · rintro j σ H' _ ⟨_, rfl, _, _, h, _⟩
                exact .of h
              · rintro j y σ H6 hy ⟨y4', rfl, k6, g6, hr6, hD6, hx6, ps6, hd6, nd6, mem6, len6⟩
                rw [List.getElem?_map] at hy
                obtain ⟨c, hc, rfl⟩ := Option.map_eq_some_iff.mp hy
                have jl : j < (codes (widI w) (l0 :: ls) (.row l body fin)).length := (List.getElem?_eq_some_iff.mp hc).1
                refine ⟨_, rfl, _, rfl, xa, _, _, _, rfl, rfl, .of hx6, atI_nat (j := 0) rfl, _, rfl, (by show 2 ≤ sizeLine; decide), fun kt hkt => ?_⟩
                have s7 := same_new (o := .tup [.int (valI l), .str c]) hkt
                have ht7 : (upd H6 kt (.tup [.int (valI l), .str c])) kt = some (.tup ((kP (valI l, c)).map kV)) := upd_same
                have g7 := g6.same s7
                generalize upd H6 kt (.tup [.int (valI l), .str c]) = H7 at s7 ht7 g7 ⊢
                have hd7 := s7 _ _ hd6
                refine ⟨d, _, rfl, DPut.t (k := kP (valI l, c)) hd7 ht7 (by unfold kvP; rw [List.length_map]; exact big (by omega)), ?_⟩
                rw [put_kvP]
                have nn : ∀ {z : Addr} {o : HO}, H7 z = some o → z ≠ d → (upd H7 d (.dT (kvP (addP ps6 (valI l, c))))) z = some o := fun e n => by rw [upd_ne n]; exact e
                have etk2 : (codes (widI w) (l0 :: ls) (.row l body fin)).take (j + 1) = (codes (widI w) (l0 :: ls) (.row l body fin)).take j ++ [c] := by
                  rw [List.take_add_one, hc]
                  rfl
                refine ⟨_, rfl, fun z o e n => nn (s7 _ _ (k6 z o e n)) (fun w => by rw [w, fd] at e; cases e), fun T hT => ?_, nn (s7 _ _ hr6) nrd, nn (s7 _ _ hD6) ndd, nn (s7 _ _ hx6) (fun w => by rw [w, hd6] at hx6; cases hx6), addP ps6 (valI l, c), upd_same, addP_nd nd6, fun p => ?_, ?_⟩
                · obtain ⟨qs, e1, e2⟩ := g7 T hT
                  exact ⟨qs, nn e1 (fun w => nd' (w ▸ hT)), e2⟩
                · rw [addP_mem, mem6 p, etk2]
                  constructor
                  · rintro ((h | ⟨c', h, e⟩) | h)
                    · exact .inl h
                    · exact .inr ⟨c', List.mem_append_left _ h, e⟩
                    · exact .inr ⟨c, List.mem_append_right _ (List.mem_cons_self ..), h⟩
                  · rintro (h | ⟨c', h, e⟩)
                    · exact .inl (.inl h)
                    · rcases List.mem_append.mp h with h | h
                      · exact .inl (.inr ⟨c', h, e⟩)
                      · rw [List.mem_singleton] at h
                        subst h
                        exact .inr e
                · have := addP_len (ps := ps6) (p := (valI l, c))
                  omega
              · rintro σ H6 ⟨y4', rfl, k6, g6, _, hD6, _, ps6, hd6, nd6, mem6, len6⟩
                rw [List.length_map, List.take_length] at mem6
                rw [List.length_map] at len6
                refine ⟨_, _, rfl, k6, g6, hD6, ps6, hd6, nd6, fun p => ?_, by omega⟩
                rw [mem6 p, etk]
                exact (bksF_snoc _ _ _ _ p).symm
            · rintro σ H4 ⟨y3, y4, rfl, k4, g4, hD4, ps, hd4, nd4, mem4, len4⟩
              rw [← lb, List.take_length] at mem4
              refine ⟨_, rfl, d, kvP ps, rfl, .inl hd4, by rw [ksD_kvP]; exact all_alike ps, by rw [ksD_kvP]; exact all_sortable ps, fun r bs' hr ik => ?_⟩
              rw [ksD_kvP]
              have pk := keys_pairs ik
              obtain ⟨L, p1, p2, p3⟩ := srt_res (zip_pairs pk) pk.length.symm
              have sr := same_new (o := .lst ((GxA.srtD (bs'.map V.ref) (ps.map pD)).map Prod.fst)) hr
              refine q r _ L (k4.trans (KG.of sr)) (g4.same sr) (KG.free k4 g4 hr) ⟨_, upd_same, L2.Paired.mapP p3 fun _ _ z => PtP.mono (Tups.of sr) z⟩ ⟨strict p2 (p1.nodup_iff.mpr nd4), fun p => ?_⟩
              rw [p1.mem_iff, mem4 p]
              show _ ↔ p ∈ (if formB _ then _ else _)
              rw [hf, els]
              rfl
      | _ => cases hf
end
end K0

set_option Elab.async false
set_option linter.all false
set_option maxRecDepth 100000
set_option maxHeartbeats 1000000
namespace K0
open PySem L2
abbrev NLi : List Str := ["x", "least", "most"]
abbrev NLe : List Str := ["e", "w", "depth"]
abbrev NLs : List Str := ["s", "w"]
abbrev NLt : List Str := ["end", "w"]
abbrev NLb : List Str := ["row"]
def tyN : Ed → String
  | .non => "NoneType"
  | .bl _ => "bool"
  | .int _ => "int"
  | .str _ => "str"
  | _ => "tuple"
theorem ty_ed {K : PySem.W.Frag} {H : Hp} {e : Ed} {v : V} (h : EdAt H e v) : TyX K H v (.type (tyN e)) := by
  cases e with
  | non => obtain rfl : v = .non := h; exact .base .non
  | bl b => obtain rfl : v = .bl b := h; exact .base (.bl b)
  | int i => obtain rfl : v = .int i := h; exact .base (.int i)
  | str s => obtain rfl : v = .str s := h; exact .base (.str s)
  | t0 => obtain ⟨a, rfl, e⟩ := h; exact .base (.tup e)
  | t1 s => obtain ⟨a, rfl, e⟩ := h; exact .base (.tup e)
  | t2 s a => obtain ⟨a, u, rfl, e, _⟩ := h; exact .base (.tup e)
  | t3 s a b => obtain ⟨a, u, u2, rfl, e, _⟩ := h; exact .base (.tup e)
  | t4 s a b c => obtain ⟨a, u, u2, u3, rfl, e, _⟩ := h; exact .base (.tup e)
theorem kit_tup {K : PySem.W.Frag} (e : Ed) : PySem.W.kitOne K (.type (tyN e)) (.type "tuple") = some (isT e) := by
  cases e <;> first | exact kit_ty (show kitB "NoneType" "tuple" = some false by decide +kernel) | exact kit_ty (show kitB "bool" "tuple" = some false by decide +kernel) | exact kit_ty (show kitB "int" "tuple" = some false by decide +kernel) | exact kit_ty (show kitB "str" "tuple" = some false by decide +kernel) | exact kit_ty (show kitB "tuple" "tuple" = some true by decide +kernel)
def isI : Ed → Bool
  | .int _ => true
  | _ => false
def isBl : Ed → Bool
  | .bl _ => true
  | _ => false
theorem kit_int {K : PySem.W.Frag} (e : Ed) : PySem.W.kitOne K (.type (tyN e)) (.type "int") = some (isI e || isBl e) := by
  cases e <;> first | exact kit_ty (show kitB "NoneType" "int" = some false by decide +kernel) | exact kit_ty (show kitB "bool" "int" = some true by decide +kernel) | exact kit_ty (show kitB "int" "int" = some true by decide +kernel) | exact kit_ty (show kitB "str" "int" = some false by decide +kernel) | exact kit_ty (show kitB "tuple" "int" = some false by decide +kernel)
theorem kit_bl {K : PySem.W.Frag} (e : Ed) : PySem.W.kitOne K (.type (tyN e)) (.type "bool") = some (isBl e) := by
  cases e <;> first | exact kit_ty (show kitB "NoneType" "bool" = some false by decide +kernel) | exact kit_ty (show kitB "bool" "bool" = some true by decide +kernel) | exact kit_ty (show kitB "int" "bool" = some false by decide +kernel) | exact kit_ty (show kitB "str" "bool" = some false by decide +kernel) | exact kit_ty (show kitB "tuple" "bool" = some false by decide +kernel)
def spLE : Nat → Sp
  | 0 => fun _ _ _ _ => False
  | n + 1 => fun vs H Q _ => ∃ (v : V) (e : Ed) (W : Nat), vs = [v, .int (W : Int), .int (n : Int)] ∧ EdAt H e v ∧ W ≤ 16 ∧ ∀ H', Same H H' → Q (.bl (isE W n e)) H'
section
variable {P : Program} {w : World} {K : PySem.W.Frag} {mg : Str → Option Value} {base : Heap}
theorem scLi : FnScope NLi ["x", "least", "most"] (defScope sLIn) := ⟨rfl, rfl, rfl, by decide +kernel, rfl, by decide +kernel, by decide +kernel⟩
theorem scLe : FnScope NLe ["e", "w", "depth"] (defScope sLIsE) := ⟨rfl, rfl, rfl, by decide +kernel, rfl, by decide +kernel, by decide +kernel⟩
theorem ok_li {f : Addr} {fd : FuncData} (F : Fun K "_law_in" "_law_in" sLIn f fd) (m_isinstance : mg "isinstance" = none) (m_int : mg "int" = none) (m_bool : mg "bool" = none) : FnOk P w K mg base CX0 1 f fd ["x", "least", "most"] spWi := by
  refine F.ok scLi (fun vs H Q E h => ?_) (fun cdv A outer s H vs Q E hr h => ?_)
  · obtain ⟨v, a, b, e, rfl, _⟩ := h
    rfl
  · obtain ⟨v, a, b, e, rfl, he, q⟩ := h
    have nd := scLi.nd
    refine ⟨_, (pss_one (ps_ret (pe_and (pe_callB (r := rIsi K) call_isi (by rfl) m_isinstance (by decide +kernel) (pa_cons (pv 0) (pa_cons (pe_bltn (v := .ty "int") (by rfl) m_int (by decide +kernel) rfl) pa_nil))) (pe_and (pe_not (pe_callB (r := rIsi K) call_isi (by rfl) m_isinstance (by decide +kernel) (pa_cons (pv 0) (pa_cons (pe_bltn (v := .ty "bool") (by rfl) m_bool (by decide +kernel) rfl) pa_nil)))) (pe_one (pe_chain op_le op_le (pv 1) (pv 0) (pv 2))))))), ?_⟩
    refine ⟨_, rfl, _, _, _, _, _, rfl, .ty "int", ty_ed he, kit_int e, _, rfl, ?_⟩
    by_cases hi : ∃ i, e = .int i
    · obtain ⟨i, rfl⟩ := hi
      have he0 := he
      obtain rfl : v = .int i := he0
      refine iteT ⟨_, rfl, _, _, _, _, _, rfl, .ty "bool", ty_ed he, kit_bl (.int i), _, rfl, _, rfl, iteT ⟨_, rfl, _, rfl, _, _, rfl, rfl, _, rfl, ?_⟩⟩
      have q : Q (.bl (decide (a ≤ i) && decide (i ≤ b))) H := q
      cases h1 : decide (a ≤ i) with
      | false =>
        rw [h1] at q
        exact iteF q
      | true =>
        rw [h1, Bool.true_and] at q
        exact iteT ⟨_, rfl, _, _, rfl, rfl, q⟩
    · have ei : inI e a b = false := by
        cases e <;> first | rfl | exact absurd ⟨_, rfl⟩ hi
      rw [ei] at q
      by_cases hb : ∃ b, e = .bl b
      · obtain ⟨b, rfl⟩ := hb
        exact iteT ⟨_, rfl, _, _, _, _, _, rfl, .ty "bool", ty_ed he, kit_bl (.bl b), _, rfl, _, rfl, iteF q⟩
      · have : (isI e || isBl e) = false := by
          cases e <;> first | rfl | exact absurd ⟨_, rfl⟩ hi | exact absurd ⟨_, rfl⟩ hb
        rw [this]
        exact iteF q
theorem ok_le {f : Addr} {fd : FuncData} (F : Fun K "_law_is_expression" "_law_is_expression" sLIsE f fd) (m_len : mg "len" = none) (m_isinstance : mg "isinstance" = none) (m_tuple : mg "tuple" = none) (m_str : mg "str" = none)
    (mLE : mg "_law_is_expression" = some (.ref f)) (kLE : PySem.W.keepIn K (.ref f) = true) (bLE : Binds K fd ["e", "w", "depth"] [])
    (GI : Got P w K mg base 1 "_law_in" ["x", "least", "most"] spWi) (GT : Got P w K mg base 1 "_law_top" ["w"] spTop) (GPr : Got P w K mg base 1 "_law_pairs" [] spPairs) : ∀ n : Nat, FnOk P w K mg base CX0 (2 + n) f fd ["e", "w", "depth"] (spLE n) := by
  obtain ⟨fLI, fdLI, GLI, mLI, kLI, bLI⟩ := GI.ex
  obtain ⟨fL, fdL, GL, mL, kL, bL⟩ := GT.ex
  obtain ⟨fP, fdP, GP, mP, kP, bP⟩ := GPr.ex
  intro n
  induction n with
  | zero => exact F.ok (k := 1) scLe (fun vs H Q E h => h.elim) (fun cdv A outer s H vs Q E hr h => h.elim)
  | succ n ih =>
    have e0 : 2 + (n + 1) = (2 + n) + 1 := by omega
    rw [e0]
    refine F.ok scLe (fun vs H Q E h => ?_) (fun cdv A outer s H vs Q E hr h => ?_)
    · obtain ⟨v, e, W, rfl, _⟩ := h
      rfl
    · obtain ⟨v, e, W, rfl, he, hW, q⟩ := h
      have nd := scLe.nd
      have hr1 : Room 1 _ := hr.mono (by omega)
      have hrI : Room 1 _ := hr.mono (by omega)
      have hrE : Room (2 + n) _ := hr
      have GLE := ih
      refine ⟨_, (pss_cons (ps_if (PW.pt (pw_or (pt_not (pt_val (pe_callB (r := rIsi K) call_isi (by rfl) m_isinstance (by decide +kernel) (pa_cons (pv 0) (pa_cons (pe_bltn (v := .ty "tuple") (by rfl) m_tuple (by decide +kernel) rfl) pa_nil))))) (pw_or (pt_cmpR op_lt (pe_callB (r := rLenS K) call_len_seq (by rfl) m_len PySem.boot_len (pa_cons (pv 0) pa_nil)) pe_int (nomark _)) (pw_or1 (pt_cmpR op_eq (pv 2) pe_int (nomark _)))))) (pss_one (ps_ret pe_bl)) pss_nil)
 (pss_cons (ps_if (pt_cmpR op_eq (pe_ix (r := rIxT K) ix_tup (pv 0) pe_int (fun _ _ => rfl)) pe_str (nomark _)) (pss_one (ps_ret (pe_and (pe_cmpR op_eq (pe_callB (r := rLenS K) call_len_seq (by rfl) m_len PySem.boot_len (pa_cons (pv 0) pa_nil)) pe_int (nomark _)) (pe_one (pe_call GLI hrI (by rfl) mLI kLI bLI .nil pass0 (pa_cons (pe_ix (r := rIxT K) ix_tup (pv 0) pe_int (fun _ _ => rfl)) (pa_cons pe_int (pa_cons (pe_call GL hr1 (by rfl) mL kL bL .nil pass0 (pa_cons (pv 1) pa_nil)) pa_nil)))))))) pss_nil)
 (pss_cons (ps_if (pt_cmpR op_eq (pe_ix (r := rIxT K) ix_tup (pv 0) pe_int (fun _ _ => rfl)) pe_str (nomark _)) (pss_one (ps_ret (pe_and (pe_cmpR op_eq (pe_callB (r := rLenS K) call_len_seq (by rfl) m_len PySem.boot_len (pa_cons (pv 0) pa_nil)) pe_int (nomark _)) (pe_one (pe_call GLI hrI (by rfl) mLI kLI bLI .nil pass0 (pa_cons (pe_ix (r := rIxT K) ix_tup (pv 0) pe_int (fun _ _ => rfl)) (pa_cons pe_int (pa_cons pe_int pa_nil)))))))) pss_nil)
 (pss_cons (ps_if (pt_cmpR (r := rIn K false) op_in_seq (pe_ix (r := rIxT K) ix_tup (pv 0) pe_int (fun _ _ => rfl)) (pe_lst (pa_cons pe_str (pa_cons pe_str (pa_cons pe_str pa_nil)))) rfl) (pss_one (ps_ret (pe_and (pe_cmpR op_eq (pe_callB (r := rLenS K) call_len_seq (by rfl) m_len PySem.boot_len (pa_cons (pv 0) pa_nil)) pe_int (nomark _)) (pe_one (pe_call GLE hrE (by rfl) mLE kLE bLE .nil pass0 (pa_cons (pe_ix (r := rIxT K) ix_tup (pv 0) pe_int (fun _ _ => rfl)) (pa_cons (pv 1) (pa_cons (pe_op op_sub (pv 2) pe_int) pa_nil)))))))) pss_nil)
 (pss_cons (ps_if (PW.pt (pw_or (pt_not (pt_val (pe_callB (r := rIsi K) call_isi (by rfl) m_isinstance (by decide +kernel) (pa_cons (pe_ix (r := rIxT K) ix_tup (pv 0) pe_int (fun _ _ => rfl)) (pa_cons (pe_bltn (v := .ty "str") (by rfl) m_str (by decide +kernel) rfl) pa_nil))))) (pw_or (pt_cmpR op_notIn_seq (pe_ix (r := rIxT K) ix_tup (pv 0) pe_int (fun _ _ => rfl)) (pe_call0 GP hr1 (by rfl) mP kP bP .nil pass0) rfl) (pw_or1 (pt_cmpR op_ne (pe_callB (r := rLenS K) call_len_seq (by rfl) m_len PySem.boot_len (pa_cons (pv 0) pa_nil)) pe_int (nomark _)))))) (pss_one (ps_ret pe_bl)) pss_nil)
 (pss_one (ps_ret (pe_and (pe_call GLE hrE (by rfl) mLE kLE bLE .nil pass0 (pa_cons (pe_ix (r := rIxT K) ix_tup (pv 0) pe_int (fun _ _ => rfl)) (pa_cons (pv 1) (pa_cons (pe_op op_sub (pv 2) pe_int) pa_nil)))) (pe_one (pe_call GLE hrE (by rfl) mLE kLE bLE .nil pass0 (pa_cons (pe_ix (r := rIxT K) ix_tup (pv 0) pe_int (fun _ _ => rfl)) (pa_cons (pv 1) (pa_cons (pe_op op_sub (pv 2) pe_int) pa_nil))))))))))))), ?_⟩
      refine ⟨_, rfl, _, _, _, _, _, rfl, .ty "tuple", ty_ed he, kit_tup e, _, rfl, ?_⟩
      have q0 := q H (Same.refl H)
      cases ht : isT e with
      | false =>
        rw [isE_t W _ ht] at q0
        exact iteT (iteT q0)
      | true =>
        obtain ⟨ta, us, rfl, hta, lu, hus⟩ := ed_tup he ht
        refine iteF ⟨_, rfl, ta, us, rfl, .inr (.of hta), _, _, rfl, rfl, _, rfl, ?_⟩
        by_cases h2 : lenT e < 2
        · rw [decide_eq_true (show ((us.length : Nat) : Int) < 2 by omega)]
          cases n with
          | zero => exact iteT (iteT q0)
          | succ n =>
            rw [isE_short W n h2] at q0
            exact iteT (iteT q0)
        have h2' : 2 ≤ lenT e := by omega
        rw [decide_eq_false (show ¬ ((us.length : Nat) : Int) < 2 by omega)]
        refine iteF ⟨_, rfl, rfl, _, rfl, ?_⟩
        cases n with
        | zero => exact iteT q0
        | succ n =>
        rw [show decide (V.int ((n + 1 : Nat) : Int) = V.int 0) = false from decide_eq_false (fun z => by have := V.int.inj z; omega)]
        refine iteF ?_
        obtain ⟨vs, rfl, pv⟩ := hus (by omega)
        have lv := pv.length
        obtain ⟨la, _⟩ := len_args h2'
        rw [isE_big W n h2'] at q
        clear q0
        generalize argsE e = as at *
        generalize hdE e = s0 at *
        have len2 : ∀ k : Nat, decide (V.int (((V.str s0 :: vs).length : Nat) : Int) = V.int ((k + 1 : Nat) : Int)) = decide (as.length = k) := fun k => decide_eq_decide.mpr ⟨fun z => by have := V.int.inj z; rw [List.length_cons] at this; omega, fun z => by rw [List.length_cons, ← lv, z]⟩
        refine ⟨_, rfl, ta, _, _, _, rfl, rfl, .of hta, atI_nat (j := 0) rfl, rfl, _, rfl, ?_⟩
        by_cases n1 : s0 = "int"
        · subst n1
          rw [dT]
          rw [bigE_int] at q
          refine iteT ⟨_, rfl, ta, _, rfl, .inr (.of hta), rfl, _, rfl, ?_⟩
          rw [show V.int 2 = V.int ((1 + 1 : Nat) : Int) from rfl, len2 1]
          by_cases h1 : as.length = 1
          · rw [decide_eq_true h1] at q ⊢
            match as, h1, pv with
            | [a0], _, .cons (b := u0) h0 .nil =>
              exact iteT ⟨_, rfl, ta, _, _, _, rfl, rfl, .of hta, atI_nat (j := 1) rfl, _, rfl, W, rfl, hW, u0, 0, _, a0, rfl, h0, q H (Same.refl H)⟩
          · rw [decide_eq_false h1] at q ⊢
            exact iteF (q H (Same.refl H))
        rw [dS n1]
        refine iteF ⟨_, rfl, ta, _, _, _, rfl, rfl, .of hta, atI_nat (j := 0) rfl, rfl, _, rfl, ?_⟩
        by_cases n2 : s0 = "var"
        · subst n2
          rw [dT]
          rw [bigE_var] at q
          refine iteT ⟨_, rfl, ta, _, rfl, .inr (.of hta), rfl, _, rfl, ?_⟩
          rw [show V.int 2 = V.int ((1 + 1 : Nat) : Int) from rfl, len2 1]
          by_cases h1 : as.length = 1
          · rw [decide_eq_true h1] at q ⊢
            match as, h1, pv with
            | [a0], _, .cons (b := u0) h0 .nil =>
              exact iteT ⟨_, rfl, ta, _, _, _, rfl, rfl, .of hta, atI_nat (j := 1) rfl, u0, 0, _, a0, rfl, h0, q H (Same.refl H)⟩
          · rw [decide_eq_false h1] at q ⊢
            exact iteF (q H (Same.refl H))
        rw [dS n2]
        refine iteF ⟨_, rfl, ta, _, _, _, rfl, rfl, .of hta, atI_nat (j := 0) rfl, (by show 3 ≤ sizeLine; decide), fun pa hpa => ?_⟩
        have s1 := same_new (o := .lst (singles.map V.str)) hpa
        have hp1 : (upd H pa (.lst (singles.map V.str))) pa = some (.lst (singles.map V.str)) := upd_same
        generalize e1 : upd H pa (.lst (singles.map V.str)) = H1 at s1 hp1
        rw [show [V.str "load", V.str "not", V.str "neg"] = singles.map V.str from rfl, e1]
        refine ⟨pa, _, rfl, .inl (.of hp1), rfl, by decide +kernel, _, rfl, ?_⟩
        show if inV (.str s0) (singles.map V.str) = true then _ else _
        rw [inV_map]
        have hta1 := s1 _ _ hta
        have pv1 := L2.Paired.mapP pv fun _ _ z => EdAt.mono (Tups.of s1) z
        by_cases n4 : s0 ∈ singles
        · have n3 : s0 ∉ tenS := fun z => (dis_ten s0 z).1 n4
          rw [bigE_sin W n as n4 n1 n2 n3] at q
          rw [decide_eq_true n4]
          refine iteT ⟨_, rfl, ta, _, rfl, .inr (.of hta1), rfl, _, rfl, ?_⟩
          rw [show V.int 2 = V.int ((1 + 1 : Nat) : Int) from rfl, len2 1]
          by_cases h1 : as.length = 1
          · rw [decide_eq_true h1] at q ⊢
            match as, h1, pv1 with
            | [a0], _, .cons (b := u0) h0 .nil =>
              refine iteT ⟨_, rfl, ta, _, _, _, rfl, rfl, .of hta1, atI_nat (j := 1) rfl, _, rfl, _, rfl, _, _, rfl, rfl, u0, a0, W, ?_, h0, hW, fun H2 s2 => ?_⟩
              · exact congrArg (fun z : Int => [u0, V.int (W : Int), V.int z]) (show ((n + 1 : Nat) : Int) - 1 = (n : Int) by omega)
              · have := q H2 (s1.trans s2)
                rw [show (true && [a0].all (isE W n)) = isE W n a0 by simp] at this
                exact this
          · rw [decide_eq_false h1] at q ⊢
            exact iteF (q H1 s1)
        rw [decide_eq_false n4]
        refine iteF ⟨_, rfl, ta, _, _, _, rfl, rfl, .of hta1, atI_nat (j := 0) rfl, _, _, _, _, _, rfl, .ty "str", .base (.str s0), kit_ty (show kitB "str" "str" = some true by decide +kernel), _, rfl, iteF ⟨_, rfl, ta, _, _, _, rfl, rfl, .of hta1, atI_nat (j := 0) rfl, rfl, fun pb hpb => ?_⟩⟩
        have s2 := same_new (o := .lst ten) hpb
        have hp2 : (upd H1 pb (.lst ten)) pb = some (.lst ten) := upd_same
        generalize upd H1 pb (.lst ten) = H2 at s2 hp2 ⊢
        have s12 := s1.trans s2
        have hta2 := s12 _ _ hta
        refine ⟨pb, _, rfl, .inl (.of hp2), rfl, by decide +kernel, _, rfl, ?_⟩
        show if (!inV (.str s0) ten) = true then _ else _
        rw [in_ten]
        by_cases n3 : s0 ∈ tenS
        · rw [decide_eq_true n3]
          rw [bigE_ten W n as n3] at q
          refine iteF ⟨_, rfl, ta, _, rfl, .inr (.of hta2), rfl, _, rfl, ?_⟩
          rw [show V.int 3 = V.int ((2 + 1 : Nat) : Int) from rfl, len2 2]
          by_cases h1 : as.length = 2
          · rw [decide_eq_true h1] at q ⊢
            refine iteF ?_
            have pv2 := L2.Paired.mapP pv fun _ _ z => EdAt.mono (Tups.of s12) z
            match as, h1, pv2 with
            | [a0, a1], _, .cons (b := u0) h0 (.cons (b := u1) h1 .nil) =>
              have q : ∀ H', Same H H' → Q (.bl (isE W n a0 && isE W n a1)) H' := fun H' s' => by
                have := q H' s'
                rw [show (true && [a0, a1].all (isE W n)) = (isE W n a0 && isE W n a1) by simp] at this
                exact this
              have ec : ∀ u : V, [u, V.int (W : Int), V.int (((n + 1 : Nat) : Int) - 1)] = [u, V.int (W : Int), V.int (n : Int)] := fun u => by rw [show ((n + 1 : Nat) : Int) - 1 = (n : Int) by omega]
              refine ⟨_, rfl, ta, _, _, _, rfl, rfl, .of hta2, atI_nat (j := 1) rfl, _, rfl, _, rfl, _, _, rfl, rfl, u0, a0, W, ec u0, h0, hW, fun H3 s3 => ?_⟩
              have hta3 := s3 _ _ hta2
              cases ea : isE W n a0 with
              | false =>
                have := q H3 (s12.trans s3)
                rw [ea] at this
                exact ⟨_, rfl, iteF this⟩
              | true =>
                refine ⟨_, rfl, iteT ⟨_, rfl, ta, _, _, _, rfl, rfl, .of hta3, atI_nat (j := 2) rfl, _, rfl, _, rfl, _, _, rfl, rfl, u1, a1, W, ec u1, EdAt.mono (Tups.of s3) h1, hW, fun H4 s4 => ?_⟩⟩
                have := q H4 ((s12.trans s3).trans s4)
                rw [ea] at this
                exact this
          · rw [decide_eq_false h1] at q ⊢
            exact iteT (q H2 s12)
        · rw [decide_eq_false n3]
          rw [bigE_no W n as n4 n1 n2 n3] at q
          exact iteT (iteT (q H2 s12))
end
end K0

set_option Elab.async false
set_option linter.all false
set_option maxRecDepth 100000
set_option maxHeartbeats 1000000
namespace K0
open PySem L2
def stG (W : Nat) (s0 : Str) (as : List Ed) : Bool :=
  if s0 = "set" then decide (as.length = 2) && (inI (as.headD .non) 0 99 && isE W 20 (as.getD 1 .non)) else if s0 = "write" then decide (as.length = 1) && isE W 20 (as.headD .non)
  else decide (s0 = "store") && (decide (as.length = 2) && (isE W 20 (as.headD .non) && isE W 20 (as.getD 1 .non)))
theorem st_big (W : Nat) {e : Ed} (h : 2 ≤ lenT e) : stB W e = stG W (hdE e) (argsE e) := by
  cases e with
  | t2 s a =>
    show (decide (s = "write") && isE W 20 a) = stG W s [a]
    unfold stG
    by_cases h1 : s = "set"
    · subst h1; rfl
    · rw [if_neg h1]
      by_cases h2 : s = "write"
      · subst h2; rfl
      · rw [if_neg h2, decide_eq_false h2]
        show (false && isE W 20 a) = (decide (s = "store") && (false && _))
        cases decide (s = "store") <;> rfl
  | t3 s a b =>
    show (if s = "set" then inI a 0 99 && isE W 20 b else decide (s = "store") && (isE W 20 a && isE W 20 b)) = stG W s [a, b]
    unfold stG
    by_cases h1 : s = "set"
    · subst h1; rfl
    · rw [if_neg h1, if_neg h1]
      by_cases h2 : s = "write"
      · subst h2; rfl
      · rw [if_neg h2]; rfl
  | t4 s a b c =>
    show false = stG W s [a, b, c]
    unfold stG
    by_cases h1 : s = "set"
    · subst h1; rfl
    · rw [if_neg h1]
      by_cases h2 : s = "write"
      · subst h2; rfl
      · rw [if_neg h2, show decide (([a, b, c] : List Ed).length = 2) = false from rfl, Bool.false_and, Bool.and_false]
  | _ => exact absurd h (by simp [lenT])
theorem st_short (W : Nat) {e : Ed} (h : ¬ 2 ≤ lenT e) : stB W e = false := by
  cases e with
  | t2 s a => exact absurd (show 2 ≤ 2 from Nat.le_refl 2) h
  | t3 s a b => exact absurd (show 2 ≤ 3 by decide) h
  | _ => rfl
def spLS : Sp := fun vs H Q _ => ∃ (v : V) (e : Ed) (W : Nat), vs = [v, .int (W : Int)] ∧ EdAt H e v ∧ W ≤ 16 ∧ ∀ H', Same H H' → Q (.bl (stB W e)) H'
def spLT : Sp := fun vs H Q _ => ∃ (v : V) (e : Ed) (W : Nat), vs = [v, .int (W : Int)] ∧ EdAt H e v ∧ isT e = true ∧ W ≤ 16 ∧ (endT W e = none → ∀ H', Same H H' → Q .non H') ∧
  ∀ ts, endT W e = some ts → ∀ r H', Same H H' → H r = none → H' r = some (.lst (ts.map V.int)) → Q (.ref r) H'
def spLB : Sp := fun vs H Q _ => ∃ (v : V) (b : Bk), vs = [v] ∧ BkAt H b v ∧ Q (.bl (blkB b)) H
section
variable {P : Program} {w : World} {K : PySem.W.Frag} {mg : Str → Option Value} {base : Heap}
theorem scLs : FnScope NLs ["s", "w"] (defScope sLIsS) := ⟨rfl, rfl, rfl, by decide +kernel, rfl, by decide +kernel, by decide +kernel⟩
theorem scLt : FnScope NLt ["end", "w"] (defScope sLTg) := ⟨rfl, rfl, rfl, by decide +kernel, rfl, by decide +kernel, by decide +kernel⟩
theorem scLb : FnScope NLb ["row"] (defScope sLIsB) := ⟨rfl, rfl, rfl, by decide +kernel, rfl, by decide +kernel, by decide +kernel⟩
theorem ok_lb {f : Addr} {fd : FuncData} (F : Fun K "_law_is_block" "_law_is_block" sLIsB f fd) (m_len : mg "len" = none) (m_isinstance : mg "isinstance" = none) (m_tuple : mg "tuple" = none) (GI : Got P w K mg base 1 "_law_in" ["x", "least", "most"] spWi) : FnOk P w K mg base CX0 2 f fd ["row"] spLB := by
  obtain ⟨fLI, fdLI, GLI, mLI, kLI, bLI⟩ := GI.ex
  refine F.ok scLb (fun vs H Q E h => ?_) (fun cdv A outer s H vs Q E hr h => ?_)
  · obtain ⟨v, b, rfl, _⟩ := h
    rfl
  · obtain ⟨v, b, rfl, hb, q⟩ := h
    have nd := scLb.nd
    have hrI : Room 1 _ := hr
    refine ⟨_, (pss_cons (ps_if (PW.pt (pw_or (pt_not (pt_val (pe_callB (r := rIsi K) call_isi (by rfl) m_isinstance (by decide +kernel) (pa_cons (pv 0) (pa_cons (pe_bltn (v := .ty "tuple") (by rfl) m_tuple (by decide +kernel) rfl) pa_nil))))) (pw_or (pt_cmpR op_ne (pe_callB (r := rLenS K) call_len_seq (by rfl) m_len PySem.boot_len (pa_cons (pv 0) pa_nil)) pe_int (nomark _)) (pw_or1 (pt_not (pt_val (pe_call GLI hrI (by rfl) mLI kLI bLI .nil pass0 (pa_cons (pe_ix (r := rIxT K) ix_tup (pv 0) pe_int (fun _ _ => rfl)) (pa_cons pe_int (pa_cons pe_int pa_nil)))))))))) (pss_one (ps_ret pe_bl)) pss_nil)
 (pss_one (ps_ret (pe_and (pe_callB (r := rIsi K) call_isi (by rfl) m_isinstance (by decide +kernel) (pa_cons (pe_ix (r := rIxT K) ix_tup (pv 0) pe_int (fun _ _ => rfl)) (pa_cons (pe_bltn (v := .ty "tuple") (by rfl) m_tuple (by decide +kernel) rfl) pa_nil))) (pe_one (pe_callB (r := rIsi K) call_isi (by rfl) m_isinstance (by decide +kernel) (pa_cons (pe_ix (r := rIxT K) ix_tup (pv 0) pe_int (fun _ _ => rfl)) (pa_cons (pe_bltn (v := .ty "tuple") (by rfl) m_tuple (by decide +kernel) rfl) pa_nil)))))))), ?_⟩
    cases b with
    | non =>
      obtain rfl : v = .non := hb
      exact ⟨_, rfl, _, _, _, _, _, rfl, .ty "tuple", .base .non, kit_ty (show kitB "NoneType" "tuple" = some false by decide +kernel), _, rfl, iteT (iteT q)⟩
    | row l body fin =>
      obtain ⟨a, bd, lv, fv, us, rfl, ha, hl, hbd, pu, hf⟩ := hb
      refine ⟨_, rfl, _, _, _, _, _, rfl, .ty "tuple", .base (.tup ha), kit_ty (show kitB "tuple" "tuple" = some true by decide +kernel), _, rfl, iteF ⟨_, rfl, a, _, rfl, .inr (.of ha), rfl, _, rfl, iteF ⟨_, rfl, a, _, _, _, rfl, rfl, .of ha, atI_nat (j := 0) rfl, lv, 0, 999, l, rfl, hl, _, rfl, ?_⟩⟩⟩
      have q : Q (.bl (inI l 0 999 && isT fin)) H := q
      cases h1 : inI l 0 999 with
      | false =>
        rw [h1] at q
        exact iteT q
      | true =>
        rw [h1, Bool.true_and] at q
        refine iteF ⟨_, rfl, a, _, _, _, rfl, rfl, .of ha, atI_nat (j := 1) rfl, _, _, _, _, _, rfl, .ty "tuple", .base (.tup hbd), kit_ty (show kitB "tuple" "tuple" = some true by decide +kernel), _, rfl, iteT ⟨_, rfl, a, _, _, _, rfl, rfl, .of ha, atI_nat (j := 2) rfl, _, _, _, _, _, rfl, .ty "tuple", ty_ed hf, kit_tup fin, q⟩⟩
theorem ok_ls {f : Addr} {fd : FuncData} (F : Fun K "_law_is_statement" "_law_is_statement" sLIsS f fd) (m_len : mg "len" = none) (m_isinstance : mg "isinstance" = none) (m_tuple : mg "tuple" = none)
    (GI : Got P w K mg base 1 "_law_in" ["x", "least", "most"] spWi) (GE : Got P w K mg base 23 "_law_is_expression" ["e", "w", "depth"] (spLE 21)) : FnOk P w K mg base CX0 24 f fd ["s", "w"] spLS := by
  obtain ⟨fLI, fdLI, GLI, mLI, kLI, bLI⟩ := GI.ex
  obtain ⟨fLE, fdLE, GLE, mLE, kLE, bLE⟩ := GE.ex
  refine F.ok scLs (fun vs H Q E h => ?_) (fun cdv A outer s H vs Q E hr h => ?_)
  · obtain ⟨v, e, W, rfl, _⟩ := h
    rfl
  · obtain ⟨v, e, W, rfl, he, hW, q⟩ := h
    have nd := scLs.nd
    have hrI : Room 1 _ := hr.mono (by omega)
    have hrE : Room 23 _ := hr
    refine ⟨_, (pss_cons (ps_if (PW.pt (pw_or (pt_not (pt_val (pe_callB (r := rIsi K) call_isi (by rfl) m_isinstance (by decide +kernel) (pa_cons (pv 0) (pa_cons (pe_bltn (v := .ty "tuple") (by rfl) m_tuple (by decide +kernel) rfl) pa_nil))))) (pw_or1 (pt_cmpR op_lt (pe_callB (r := rLenS K) call_len_seq (by rfl) m_len PySem.boot_len (pa_cons (pv 0) pa_nil)) pe_int (nomark _))))) (pss_one (ps_ret pe_bl)) pss_nil)
 (pss_cons (ps_if (pt_cmpR op_eq (pe_ix (r := rIxT K) ix_tup (pv 0) pe_int (fun _ _ => rfl)) pe_str (nomark _)) (pss_one (ps_ret (pe_and (pe_cmpR op_eq (pe_callB (r := rLenS K) call_len_seq (by rfl) m_len PySem.boot_len (pa_cons (pv 0) pa_nil)) pe_int (nomark _)) (pe_and (pe_call GLI hrI (by rfl) mLI kLI bLI .nil pass0 (pa_cons (pe_ix (r := rIxT K) ix_tup (pv 0) pe_int (fun _ _ => rfl)) (pa_cons pe_int (pa_cons pe_int pa_nil)))) (pe_one (pe_call GLE hrE (by rfl) mLE kLE bLE .nil pass0 (pa_cons (pe_ix (r := rIxT K) ix_tup (pv 0) pe_int (fun _ _ => rfl)) (pa_cons (pv 1) (pa_cons pe_int pa_nil))))))))) pss_nil)
 (pss_cons (ps_if (pt_cmpR op_eq (pe_ix (r := rIxT K) ix_tup (pv 0) pe_int (fun _ _ => rfl)) pe_str (nomark _)) (pss_one (ps_ret (pe_and (pe_cmpR op_eq (pe_callB (r := rLenS K) call_len_seq (by rfl) m_len PySem.boot_len (pa_cons (pv 0) pa_nil)) pe_int (nomark _)) (pe_one (pe_call GLE hrE (by rfl) mLE kLE bLE .nil pass0 (pa_cons (pe_ix (r := rIxT K) ix_tup (pv 0) pe_int (fun _ _ => rfl)) (pa_cons (pv 1) (pa_cons pe_int pa_nil)))))))) pss_nil)
 (pss_one (ps_ret (pe_and (pe_cmpR op_eq (pe_ix (r := rIxT K) ix_tup (pv 0) pe_int (fun _ _ => rfl)) pe_str (nomark _)) (pe_and (pe_cmpR op_eq (pe_callB (r := rLenS K) call_len_seq (by rfl) m_len PySem.boot_len (pa_cons (pv 0) pa_nil)) pe_int (nomark _)) (pe_and (pe_call GLE hrE (by rfl) mLE kLE bLE .nil pass0 (pa_cons (pe_ix (r := rIxT K) ix_tup (pv 0) pe_int (fun _ _ => rfl)) (pa_cons (pv 1) (pa_cons pe_int pa_nil)))) (pe_one (pe_call GLE hrE (by rfl) mLE kLE bLE .nil pass0 (pa_cons (pe_ix (r := rIxT K) ix_tup (pv 0) pe_int (fun _ _ => rfl)) (pa_cons (pv 1) (pa_cons pe_int pa_nil))))))))))))), ?_⟩
    have q0 := q H (Same.refl H)
    refine ⟨_, rfl, _, _, _, _, _, rfl, .ty "tuple", ty_ed he, kit_tup e, _, rfl, ?_⟩
    cases ht : isT e with
    | false =>
      rw [show stB W e = false by cases e <;> first | rfl | cases ht] at q0
      exact iteT (iteT q0)
    | true =>
      obtain ⟨ta, us, rfl, hta, lu, hus⟩ := ed_tup he ht
      refine iteF ⟨_, rfl, ta, us, rfl, .inr (.of hta), _, _, rfl, rfl, _, rfl, ?_⟩
      by_cases h2' : 2 ≤ lenT e
      · rw [decide_eq_false (show ¬ ((us.length : Nat) : Int) < 2 by omega)]
        obtain ⟨vs, rfl, pv⟩ := hus (by omega)
        have lv := pv.length
        rw [st_big W h2'] at q
        clear q0
        generalize argsE e = as at *
        generalize hdE e = s0 at *
        have len2 : ∀ k : Nat, decide (V.int (((V.str s0 :: vs).length : Nat) : Int) = V.int ((k + 1 : Nat) : Int)) = decide (as.length = k) := fun k => decide_eq_decide.mpr ⟨fun z => by have := V.int.inj z; rw [List.length_cons] at this; omega, fun z => by rw [List.length_cons, ← lv, z]⟩
        refine iteF ⟨_, rfl, ta, _, _, _, rfl, rfl, .of hta, atI_nat (j := 0) rfl, rfl, _, rfl, ?_⟩
        unfold stG at q
        by_cases n1 : s0 = "set"
        · rw [if_pos n1] at q
          rw [show decide (V.str s0 = V.str "set") = true from decide_eq_true (by rw [n1])]
          refine iteT ⟨_, rfl, ta, _, rfl, .inr (.of hta), rfl, _, rfl, ?_⟩
          rw [show V.int 3 = V.int ((2 + 1 : Nat) : Int) from rfl, len2 2]
          by_cases h1 : as.length = 2
          · rw [decide_eq_true h1] at q ⊢
            match as, h1, pv with
            | [a0, a1], _, .cons (b := u0) h0 (.cons (b := u1) h1 .nil) =>
              have q : ∀ H', Same H H' → Q (.bl (inI a0 0 99 && isE W 20 a1)) H' := q
              refine iteT ⟨_, rfl, ta, _, _, _, rfl, rfl, .of hta, atI_nat (j := 1) rfl, u0, 0, 99, a0, rfl, h0, ?_⟩
              cases ea : inI a0 0 99 with
              | false =>
                rw [ea] at q
                exact ⟨_, rfl, iteF (q H (Same.refl H))⟩
              | true =>
                rw [ea] at q
                exact ⟨_, rfl, iteT ⟨_, rfl, ta, _, _, _, rfl, rfl, .of hta, atI_nat (j := 2) rfl, _, rfl, u1, a1, W, rfl, h1, hW, q⟩⟩
          · rw [decide_eq_false h1] at q ⊢
            exact iteF (q H (Same.refl H))
        rw [if_neg n1] at q
        rw [dS n1]
        refine iteF ⟨_, rfl, ta, _, _, _, rfl, rfl, .of hta, atI_nat (j := 0) rfl, rfl, _, rfl, ?_⟩
        by_cases n2 : s0 = "write"
        · rw [if_pos n2] at q
          rw [show decide (V.str s0 = V.str "write") = true from decide_eq_true (by rw [n2])]
          refine iteT ⟨_, rfl, ta, _, rfl, .inr (.of hta), rfl, _, rfl, ?_⟩
          rw [show V.int 2 = V.int ((1 + 1 : Nat) : Int) from rfl, len2 1]
          by_cases h1 : as.length = 1
          · rw [decide_eq_true h1] at q ⊢
            match as, h1, pv with
            | [a0], _, .cons (b := u0) h0 .nil =>
              exact iteT ⟨_, rfl, ta, _, _, _, rfl, rfl, .of hta, atI_nat (j := 1) rfl, _, rfl, u0, a0, W, rfl, h0, hW, q⟩
          · rw [decide_eq_false h1] at q ⊢
            exact iteF (q H (Same.refl H))
        rw [if_neg n2] at q
        rw [dS n2]
        refine iteF ⟨_, rfl, ta, _, _, _, rfl, rfl, .of hta, atI_nat (j := 0) rfl, rfl, _, rfl, ?_⟩
        by_cases n3 : s0 = "store"
        · rw [decide_eq_true n3] at q
          rw [show decide (V.str s0 = V.str "store") = true from decide_eq_true (by rw [n3])]
          refine iteT ⟨_, rfl, ta, _, rfl, .inr (.of hta), rfl, _, rfl, ?_⟩
          rw [show V.int 3 = V.int ((2 + 1 : Nat) : Int) from rfl, len2 2]
          by_cases h1 : as.length = 2
          · rw [decide_eq_true h1] at q ⊢
            match as, h1, pv with
            | [a0, a1], _, .cons (b := u0) h0 (.cons (b := u1) h1 .nil) =>
              have q : ∀ H', Same H H' → Q (.bl (isE W 20 a0 && isE W 20 a1)) H' := q
              refine iteT ⟨_, rfl, ta, _, _, _, rfl, rfl, .of hta, atI_nat (j := 1) rfl, _, rfl, u0, a0, W, rfl, h0, hW, fun H2 s2 => ?_⟩
              have q2 := q H2 s2
              cases ea : isE W 20 a0 with
              | false =>
                rw [ea] at q2
                exact ⟨_, rfl, iteF q2⟩
              | true =>
                refine ⟨_, rfl, iteT ⟨_, rfl, ta, _, _, _, rfl, rfl, .of (s2 _ _ hta), atI_nat (j := 2) rfl, _, rfl, u1, a1, W, rfl, EdAt.mono (Tups.of s2) h1, hW, fun H3 s3 => ?_⟩⟩
                have q3 := q H3 (s2.trans s3)
                rw [ea] at q3
                exact q3
          · rw [decide_eq_false h1] at q ⊢
            exact iteF (q H (Same.refl H))
        · rw [decide_eq_false n3] at q
          rw [dS n3]
          exact iteF (q H (Same.refl H))
      · rw [st_short W h2'] at q0
        rw [decide_eq_true (show ((us.length : Nat) : Int) < 2 by omega)]
        exact iteT q0
theorem ok_lt {f : Addr} {fd : FuncData} (F : Fun K "_law_targets" "_law_targets" sLTg f fd) (m_len : mg "len" = none)
    (GI : Got P w K mg base 1 "_law_in" ["x", "least", "most"] spWi) (GE : Got P w K mg base 23 "_law_is_expression" ["e", "w", "depth"] (spLE 21)) : FnOk P w K mg base CX0 24 f fd ["end", "w"] spLT := by
  obtain ⟨fLI, fdLI, GLI, mLI, kLI, bLI⟩ := GI.ex
  obtain ⟨fLE, fdLE, GLE, mLE, kLE, bLE⟩ := GE.ex
  refine F.ok scLt (fun vs H Q E h => ?_) (fun cdv A outer s H vs Q E hr h => ?_)
  · obtain ⟨v, e, W, rfl, _⟩ := h
    rfl
  · obtain ⟨v, e, W, rfl, he, ht, hW, qn, qs⟩ := h
    have nd := scLt.nd
    have hrI : Room 1 _ := hr.mono (by omega)
    have hrE : Room 23 _ := hr
    refine ⟨_, (pss_cons (ps_if (PW.pt (pw_and (pt_cmpR op_eq (pe_callB (r := rLenS K) call_len_seq (by rfl) m_len PySem.boot_len (pa_cons (pv 0) pa_nil)) pe_int (nomark _)) (pw_and (pt_cmpR op_eq (pe_ix (r := rIxT K) ix_tup (pv 0) pe_int (fun _ _ => rfl)) pe_str (nomark _)) (pw_and1 (pt_val (pe_call GLI hrI (by rfl) mLI kLI bLI .nil pass0 (pa_cons (pe_ix (r := rIxT K) ix_tup (pv 0) pe_int (fun _ _ => rfl)) (pa_cons pe_int (pa_cons pe_int pa_nil))))))))) (pss_one (ps_ret (pe_lst (pa_cons (pe_ix (r := rIxT K) ix_tup (pv 0) pe_int (fun _ _ => rfl)) pa_nil)))) pss_nil)
 (pss_cons (ps_if (PW.pt (pw_and (pt_cmpR op_eq (pe_callB (r := rLenS K) call_len_seq (by rfl) m_len PySem.boot_len (pa_cons (pv 0) pa_nil)) pe_int (nomark _)) (pw_and (pt_cmpR op_eq (pe_ix (r := rIxT K) ix_tup (pv 0) pe_int (fun _ _ => rfl)) pe_str (nomark _)) (pw_and1 (pt_val (pe_call GLE hrE (by rfl) mLE kLE bLE .nil pass0 (pa_cons (pe_ix (r := rIxT K) ix_tup (pv 0) pe_int (fun _ _ => rfl)) (pa_cons (pv 1) (pa_cons pe_int pa_nil))))))))) (pss_one (ps_ret (pe_lst pa_nil))) pss_nil)
 (pss_cons (ps_if (PW.pt (pw_and (pt_cmpR op_eq (pe_callB (r := rLenS K) call_len_seq (by rfl) m_len PySem.boot_len (pa_cons (pv 0) pa_nil)) pe_int (nomark _)) (pw_and (pt_cmpR op_eq (pe_ix (r := rIxT K) ix_tup (pv 0) pe_int (fun _ _ => rfl)) pe_str (nomark _)) (pw_and (pt_val (pe_call GLE hrE (by rfl) mLE kLE bLE .nil pass0 (pa_cons (pe_ix (r := rIxT K) ix_tup (pv 0) pe_int (fun _ _ => rfl)) (pa_cons (pv 1) (pa_cons pe_int pa_nil))))) (pw_and (pt_val (pe_call GLI hrI (by rfl) mLI kLI bLI .nil pass0 (pa_cons (pe_ix (r := rIxT K) ix_tup (pv 0) pe_int (fun _ _ => rfl)) (pa_cons pe_int (pa_cons pe_int pa_nil))))) (pw_and1 (pt_val (pe_call GLI hrI (by rfl) mLI kLI bLI .nil pass0 (pa_cons (pe_ix (r := rIxT K) ix_tup (pv 0) pe_int (fun _ _ => rfl)) (pa_cons pe_int (pa_cons pe_int pa_nil))))))))))) (pss_one (ps_ret (pe_lst (pa_cons (pe_ix (r := rIxT K) ix_tup (pv 0) pe_int (fun _ _ => rfl)) (pa_cons (pe_ix (r := rIxT K) ix_tup (pv 0) pe_int (fun _ _ => rfl)) pa_nil))))) pss_nil)
 (pss_one (ps_ret pe_non))))), ?_⟩
    obtain ⟨ta, us, rfl, hta, lu, hus⟩ := ed_tup he ht
    have l2 : ∀ k : Nat, decide (V.int ((us.length : Nat) : Int) = V.int (k : Int)) = decide (lenT e = k) := fun k => decide_eq_decide.mpr ⟨fun z => by have := V.int.inj z; omega, fun z => by rw [lu, z]⟩
    have l22 := l2 2
    have l24 := l2 4
    have fini : ∀ (xs : List Int) (H1 : Hp), endT W e = some xs → Same H H1 → xs.length ≤ 2 → (xs.map V.int).length ≤ sizeLine ∧ ∀ p, H1 p = none → Q (.ref p) (upd H1 p (.lst (xs.map V.int))) := fun xs H1 ee s1 l => by
      refine ⟨by rw [List.length_map]; exact Nat.le_of_lt (big (by omega)), fun p hp => ?_⟩
      have sp := same_new (o := .lst (xs.map V.int)) hp
      exact qs xs ee p _ (s1.trans sp) (s1.free hp) upd_same
    refine ⟨_, rfl, ta, _, rfl, .inr (.of hta), rfl, _, rfl, ?_⟩
    rw [show V.int 2 = V.int ((2 : Nat) : Int) from rfl, l22]
    by_cases h2 : lenT e = 2
    · rw [decide_eq_true h2]
      cases e with
      | t2 s x =>
        have he0 := he
        obtain ⟨tb, ux, e1, htb, hx⟩ := he0
        cases e1
        rw [hta] at htb
        have := HO.tup.inj (Option.some.inj htb)
        subst this
        clear htb
        refine iteT ⟨_, rfl, ta, _, _, _, rfl, rfl, .of hta, atI_nat (j := 0) rfl, rfl, _, rfl, ?_⟩
        have fin : ∀ H1, Same H H1 → endT W (.t2 s x) = none → Q .non H1 := fun H1 s1 ee => qn ee H1 s1
        have f4 : decide (V.int (([V.str s, ux].length : Nat) : Int) = V.int 4) = false := l24
        have f2 : decide (V.int (([V.str s, ux].length : Nat) : Int) = V.int ((2 : Nat) : Int)) = true := l22
        by_cases n1 : s = "go"
        · rw [show decide (V.str s = V.str "go") = true from decide_eq_true (by rw [n1])]
          refine iteT ⟨_, rfl, ta, _, _, _, rfl, rfl, .of hta, atI_nat (j := 1) rfl, ux, 0, 999, x, rfl, hx, _, rfl, ?_⟩
          have ee : endT W (.t2 s x) = if inI x 0 999 then some [valI x] else none := by
            show (if s = "go" then _ else _) = _
            rw [if_pos n1]
          cases ea : inI x 0 999 with
          | true =>
            rw [ea] at ee
            have hux : ux = .int (valI x) := by rw [in_val ea] at hx; exact hx
            subst hux
            exact iteT ⟨_, rfl, ta, _, _, _, rfl, rfl, .of hta, atI_nat (j := 1) rfl, fini [valI x] H ee (Same.refl H) (by simp)⟩
          | false =>
            rw [ea] at ee
            refine iteF ⟨_, rfl, ta, _, rfl, .inr (.of hta), rfl, _, rfl, ?_⟩
            rw [f2]
            refine iteT ⟨_, rfl, ta, _, _, _, rfl, rfl, .of hta, atI_nat (j := 0) rfl, rfl, _, rfl, ?_⟩
            rw [dS (show ¬ s = "return" by rw [n1]; decide +kernel)]
            refine iteF ⟨_, rfl, ta, _, rfl, .inr (.of hta), rfl, _, rfl, ?_⟩
            rw [f4]
            exact iteF (fin H (Same.refl H) ee)
        · rw [dS n1]
          refine iteF ⟨_, rfl, ta, _, rfl, .inr (.of hta), rfl, _, rfl, ?_⟩
          rw [f2]
          refine iteT ⟨_, rfl, ta, _, _, _, rfl, rfl, .of hta, atI_nat (j := 0) rfl, rfl, _, rfl, ?_⟩
          have ee : endT W (.t2 s x) = if s = "return" then (if isE W 20 x then some [] else none) else none := by
            show (if s = "go" then _ else _) = _
            rw [if_neg n1]
          by_cases n2 : s = "return"
          · rw [if_pos n2] at ee
            rw [show decide (V.str s = V.str "return") = true from decide_eq_true (by rw [n2])]
            refine iteT ⟨_, rfl, ta, _, _, _, rfl, rfl, .of hta, atI_nat (j := 1) rfl, _, rfl, ux, x, W, rfl, hx, hW, fun H1 s1 => ⟨_, rfl, ?_⟩⟩
            cases ea : isE W 20 x with
            | true =>
              rw [ea] at ee
              exact iteT (fini [] H1 ee s1 (by simp))
            | false =>
              rw [ea] at ee
              refine iteF ⟨_, rfl, ta, _, rfl, .inr (.of (s1 _ _ hta)), rfl, _, rfl, ?_⟩
              rw [f4]
              exact iteF (fin H1 s1 ee)
          · rw [if_neg n2] at ee
            rw [dS n2]
            refine iteF ⟨_, rfl, ta, _, rfl, .inr (.of hta), rfl, _, rfl, ?_⟩
            rw [f4]
            exact iteF (fin H (Same.refl H) ee)
      | _ => cases h2
    · rw [decide_eq_false h2]
      refine iteF ⟨_, rfl, ta, _, rfl, .inr (.of hta), rfl, _, rfl, ?_⟩
      rw [l22, decide_eq_false h2]
      refine iteF ⟨_, rfl, ta, _, rfl, .inr (.of hta), rfl, _, rfl, ?_⟩
      rw [show V.int 4 = V.int ((4 : Nat) : Int) from rfl, l24]
      by_cases h4 : lenT e = 4
      · rw [decide_eq_true h4]
        cases e with
        | t4 s x y z =>
          have he0 := he
          obtain ⟨tb, ux, uy, uz, e1, htb, hx, hy, hz⟩ := he0
          cases e1
          rw [hta] at htb
          have := HO.tup.inj (Option.some.inj htb)
          subst this
          clear htb
          refine iteT ⟨_, rfl, ta, _, _, _, rfl, rfl, .of hta, atI_nat (j := 0) rfl, rfl, _, rfl, ?_⟩
          have ee : endT W (.t4 s x y z) = if s = "if" then (if isE W 20 x && (inI y 0 999 && inI z 0 999) then some [valI y, valI z] else none) else none := rfl
          by_cases n1 : s = "if"
          · rw [if_pos n1] at ee
            rw [show decide (V.str s = V.str "if") = true from decide_eq_true (by rw [n1])]
            refine iteT ⟨_, rfl, ta, _, _, _, rfl, rfl, .of hta, atI_nat (j := 1) rfl, _, rfl, ux, x, W, rfl, hx, hW, fun H1 s1 => ⟨_, rfl, ?_⟩⟩
            have hta1 := s1 _ _ hta
            have hy1 := EdAt.mono (Tups.of s1) hy
            have hz1 := EdAt.mono (Tups.of s1) hz
            cases ea : isE W 20 x with
            | false =>
              rw [ea] at ee
              exact iteF (qn ee H1 s1)
            | true =>
              refine iteT ⟨_, rfl, ta, _, _, _, rfl, rfl, .of hta1, atI_nat (j := 2) rfl, uy, 0, 999, y, rfl, hy1, _, rfl, ?_⟩
              cases eb : inI y 0 999 with
              | false =>
                rw [ea, eb] at ee
                exact iteF (qn ee H1 s1)
              | true =>
                refine iteT ⟨_, rfl, ta, _, _, _, rfl, rfl, .of hta1, atI_nat (j := 3) rfl, uz, 0, 999, z, rfl, hz1, _, rfl, ?_⟩
                cases ec : inI z 0 999 with
                | false =>
                  rw [ea, eb, ec] at ee
                  exact iteF (qn ee H1 s1)
                | true =>
                  rw [ea, eb, ec] at ee
                  have huy : uy = .int (valI y) := by rw [in_val eb] at hy; exact hy
                  have huz : uz = .int (valI z) := by rw [in_val ec] at hz; exact hz
                  subst huy huz
                  exact iteT ⟨_, rfl, ta, _, _, _, rfl, rfl, .of hta1, atI_nat (j := 2) rfl, _, rfl, ta, _, _, _, rfl, rfl, .of hta1, atI_nat (j := 3) rfl, fini [valI y, valI z] H1 ee s1 (by simp)⟩
          · rw [if_neg n1] at ee
            rw [dS n1]
            exact iteF (qn ee H (Same.refl H))
        | _ => cases h4
      · rw [decide_eq_false h4]
        exact iteF (qn (by cases e <;> first | rfl | exact absurd rfl h2 | exact absurd rfl h4) H (Same.refl H))
end
end K0

set_option Elab.async false
set_option linter.all false
set_option maxRecDepth 100000
set_option maxHeartbeats 1000000
namespace K0
open PySem L2
/-- laid and not deep -/
def Ed3 (e : Ed) : Prop := e.ok ∧ e.deep ≤ 25
theorem all_eds {l : List Ed} (h : ∀ e ∈ l, Ed3 e) : PyData.canLayAll0 (l.map edD) = true ∧ PyData.depthAll (l.map edD) ≤ 25 := by
  induction l with
  | nil => exact ⟨rfl, by simp [PyData.depthAll]⟩
  | cons x r ih =>
    obtain ⟨a, b⟩ := ih fun e he => h e (List.mem_cons_of_mem _ he)
    have hx := h x List.mem_cons_self
    have := dep_ed x
    have := hx.2
    refine ⟨by simp [PyData.canLayAll0, can_ed hx.1, a], ?_⟩
    simp [PyData.depthAll]
    omega
theorem sh_eds {l : List Ed} (h : ∀ e ∈ l, Ed3 e) : SeqAt.shaped (.list (l.map edD)) = true := by
  have c := all_eds h
  unfold SeqAt.shaped
  have h1 : PyData.canLay0 (.list (l.map edD)) = true := by simp [PyData.canLay0, c.1]
  have h2 : PyData.depth (.list (l.map edD)) ≤ 64 := by
    simp [PyData.depth]
    omega
  rw [h1, decide_eq_true h2]
  rfl
theorem dp_eds {K : PySem.W.Frag} {H : Hp} : ∀ {es : List Ed} {vs : List V}, Paired (EdAt H) es vs → DpAll K H vs (es.map edD)
  | _, _, .nil => .nil
  | _, _, .cons a t => .cons (dp_ed a) (dp_eds t)
def bkD : Bk → PyData
  | .non => .none
  | .row l body fin => .tuple [edD l, .tuple (body.map edD), edD fin]
def Bk3 : Bk → Prop
  | .non => True
  | .row l body fin => Ed3 l ∧ (∀ e ∈ body, Ed3 e) ∧ Ed3 fin ∧ body.length ≤ 60
theorem dp_bk {K : PySem.W.Frag} {H : Hp} {b : Bk} {v : V} (h : BkAt H b v) : Dp K H v (bkD b) := by
  cases b with
  | non => obtain rfl : v = .non := h; exact .non
  | row l body fin =>
    obtain ⟨a, bd, lv, fv, us, rfl, ha, hl, hbd, pu, hf⟩ := h
    exact .tup (.inl (.of ha)) (.cons (dp_ed hl) (.cons (.tup (.inl (.of hbd)) (dp_eds pu)) (.cons (dp_ed hf) .nil)))
theorem dp_bks {K : PySem.W.Frag} {H : Hp} : ∀ {es : List Bk} {vs : List V}, Paired (BkAt H) es vs → DpAll K H vs (es.map bkD)
  | _, _, .nil => .nil
  | _, _, .cons a t => .cons (dp_bk a) (dp_bks t)
theorem sh_bk {b : Bk} (h : Bk3 b) : (bkD b).canLay0 = true ∧ (bkD b).depth ≤ 27 := by
  cases b with
  | non => exact ⟨rfl, by simp [bkD, PyData.depth]⟩
  | row l body fin =>
    obtain ⟨h1, h2, h3, _⟩ := h
    have c := all_eds h2
    have c1 := can_ed h1.1
    have c3 := can_ed h3.1
    have d1 := dep_ed l
    have d3 := dep_ed fin
    have e1 := h1.2
    have e3 := h3.2
    refine ⟨by simp [bkD, PyData.canLay0, PyData.canLayAll0, c1, c3, c.1], ?_⟩
    simp [bkD, PyData.depth, PyData.depthAll]
    omega
theorem all_bks {l : List Bk} (h : ∀ e ∈ l, Bk3 e) : PyData.canLayAll0 (l.map bkD) = true ∧ PyData.depthAll (l.map bkD) ≤ 27 := by
  induction l with
  | nil => exact ⟨rfl, by simp [PyData.depthAll]⟩
  | cons x r ih =>
    obtain ⟨a, b⟩ := ih fun e he => h e (List.mem_cons_of_mem _ he)
    obtain ⟨h1, h2⟩ := sh_bk (h x List.mem_cons_self)
    refine ⟨by simp [PyData.canLayAll0, h1, a], ?_⟩
    simp [PyData.depthAll]
    omega
theorem sh_bks {l : List Bk} (h : ∀ e ∈ l, Bk3 e) : SeqAt.shaped (.list (l.map bkD)) = true ∧ SeqAt.shaped (.tuple (l.map bkD)) = true := by
  have c := all_bks h
  unfold SeqAt.shaped
  have h1 : PyData.canLay0 (.list (l.map bkD)) = true := by simp [PyData.canLay0, c.1]
  have h2 : PyData.depth (.list (l.map bkD)) ≤ 64 := by
    simp [PyData.depth]
    omega
  have h3 : PyData.canLay0 (.tuple (l.map bkD)) = true := by simp [PyData.canLay0, c.1]
  have h4 : PyData.depth (.tuple (l.map bkD)) ≤ 64 := by
    simp [PyData.depth]
    omega
  rw [h1, decide_eq_true h2, h3, decide_eq_true h4]
  exact ⟨rfl, rfl⟩
theorem dp_ints {K : PySem.W.Frag} {H : Hp} : ∀ l : List Int, DpAll K H (l.map V.int) (l.map PyData.int)
  | [] => .nil
  | x :: l => .cons (.int x) (dp_ints l)
theorem sh_ints (l : List Int) : SeqAt.shaped (.list (l.map PyData.int)) = true := by
  have c : PyData.canLayAll0 (l.map PyData.int) = true ∧ PyData.depthAll (l.map PyData.int) ≤ 1 := by
    induction l with
    | nil => exact ⟨rfl, by simp [PyData.depthAll]⟩
    | cons x r ih =>
      refine ⟨by simp [PyData.canLayAll0, PyData.canLay0, ih.1], ?_⟩
      simp [PyData.depthAll, PyData.depth]
      have := ih.2
      omega
  unfold SeqAt.shaped
  have h1 : PyData.canLay0 (.list (l.map PyData.int)) = true := by simp [PyData.canLay0, c.1]
  have h2 : PyData.depth (.list (l.map PyData.int)) ≤ 64 := by
    simp [PyData.depth]
    omega
  rw [h1, decide_eq_true h2]
  rfl
theorem eqv_nilL (l : List PyData) : PyData.eqv (.list l) (.list []) = l.isEmpty := by
  cases l <;> rfl
theorem eqv_nilT (l : List PyData) : PyData.eqv (.tuple l) (.tuple []) = l.isEmpty := by
  cases l <;> rfl
def Va3 : Va → Prop
  | .three _ _ (some bs) => bs.length ≤ 40 ∧ ∀ b ∈ bs, Bk3 b
  | _ => True
end K0

set_option Elab.async false
set_option linter.all false
set_option maxRecDepth 100000
set_option maxHeartbeats 1000000
namespace K0
open PySem L2
abbrev NLd : List Str := ["value", "labels", "found", "label", "body", "end", "targets", "rows", "row", "other", "s", "target", "k"]
def spLD : Sp := fun vs H Q _ => ∃ (v : V) (x : Va), vs = [v] ∧ VaAt H x v ∧ Va3 x ∧ ∀ r H' L, Same H H' → H r = none → LAt H' r L → IsDue x L → Q (.ref r) H'
theorem form_ret {x : Va} {H : Hp} {Q : VK} (q : ∀ r H' L, Same H H' → H r = none → LAt H' r L → IsDue x L → Q (.ref r) H') (h : rawF x = [(-1, ("form" : Str))]) {H1 : Hp} (s1 : Same H H1) :
    ∀ ta, H1 ta = none → ∀ r, (upd H1 ta (.tup [.int (-1), .str ("form" : Str)])) r = none → Q (.ref r) (upd (upd H1 ta (.tup [.int (-1), .str ("form" : Str)])) r (.lst [.ref ta])) := fun ta hta r hr => by
  have s2 := same_new (o := .tup [.int (-1), .str ("form" : Str)]) hta
  have h2 : (upd H1 ta (.tup [.int (-1), .str ("form" : Str)])) ta = some (.tup [.int (-1), .str ("form" : Str)]) := upd_same
  have s3 := same_new (o := .lst [.ref ta]) hr
  exact q r _ _ (s1.trans (s2.trans s3)) ((s1.trans s2).free hr) ⟨_, upd_same, .cons ⟨ta, rfl, s3 _ _ h2⟩ .nil⟩ (isDue_form h)
theorem prd_app {α β : Type} {F : α → β → Prop} : ∀ {xs xs2 : List α} {ys ys2 : List β}, Paired F xs ys → Paired F xs2 ys2 → Paired F (xs ++ xs2) (ys ++ ys2)
  | _, _, _, _, .nil, h => h
  | _, _, _, _, .cons a t, h => .cons a (prd_app t h)
theorem filt_snoc {α : Type} (p : α → Bool) (l : List α) (x : α) : (l ++ [x]).filter p = l.filter p ++ if p x = true then [x] else [] := by
  rw [List.filter_append]
  congr 1
  cases h : p x <;> simp [h]
theorem filt_empty {α : Type} (p : α → Bool) (l : List α) : (l.filter fun x => !p x).isEmpty = l.all p := by
  induction l with
  | nil => rfl
  | cons x l ih =>
    rw [List.filter_cons, List.all_cons]
    cases h : p x with
    | true => simpa [h] using ih
    | false => simp
theorem ap_P {K : PySem.W.Frag} {D : Ends} {σ : L2.St} {H : Hp} {fa : Addr} {L : List (Int × Str)} {l : Int} {c : Str} (h2 : σ[2]? = some (some (.ref fa))) (h3 : σ[3]? = some (some (.int l))) (hf : LAt H fa L) (hn : L.length < 1000)
    (k : ∀ H', (∀ z o, z ≠ fa → H z = some o → H' z = some o) → LAt H' fa (L ++ [(l, c)]) → D.nx σ H') : tDrop (tBM K "list" rAppend (tVar 2) (tCons (tTup (tCons (tVar 3) (tCons (tC (.str c)) tNil))) tNil)) D σ H := by
    obtain ⟨vs, e1, e2⟩ := hf
    refine ⟨_, h2, .inl ⟨rfl, _, .of e1⟩, _, h3, (by show 2 ≤ sizeLine; decide), fun kt hkt => ?_⟩
    have s1 := same_new (o := .tup [.int l, .str c]) hkt
    have ht : (upd H kt (.tup [.int l, .str c])) kt = some (.tup [.int l, .str c]) := upd_same
    generalize upd H kt (.tup [.int l, .str c]) = H1 at s1 ht ⊢
    have ln := e2.length
    have e1' := s1 _ _ e1
    have nn : ∀ z o, z ≠ fa → H1 z = some o → (upd H1 fa (.lst (vs ++ [.ref kt]))) z = some o := fun z o n e => by rw [upd_ne n]; exact e
    have tt : ∀ z xs, H1 z = some (.tup xs) → (upd H1 fa (.lst (vs ++ [.ref kt]))) z = some (.tup xs) := fun z xs e => nn z _ (fun w => by rw [w, e1'] at e; cases e) e
    refine ⟨fa, vs, _, rfl, rfl, e1', big (by omega), k _ (fun z o n e => nn z o n (s1 _ _ e)) ⟨_, upd_same, ?_⟩⟩
    exact prd_app (L2.Paired.mapP e2 fun _ _ z => (z.mono (Tups.of s1)).mono tt) (.cons ⟨kt, rfl, tt _ _ ht⟩ .nil)
theorem ap_leafP {K : PySem.W.Frag} {b : Bool} {D : Ends} {σ : L2.St} {H : Hp} {fa : Addr} {L : List (Int × Str)} {l : Int} {c : Str} (h2 : σ[2]? = some (some (.ref fa))) (h3 : σ[3]? = some (some (.int l))) (hf : LAt H fa L) (hn : L.length < 1000)
    (k : ∀ H', (∀ z o, z ≠ fa → H z = some o → H' z = some o) → LAt H' fa (L ++ if b = true then [(l, c)] else []) → D.nx σ H') : if b = true then tDrop (tBM K "list" rAppend (tVar 2) (tCons (tTup (tCons (tVar 3) (tCons (tC (.str c)) tNil))) tNil)) D σ H else tNext D σ H := by
  cases b with
  | false => exact iteF (k H (fun _ _ _ e => e) (by simpa using hf))
  | true =>
    refine iteT (ap_P h2 h3 hf hn fun H' n e => k H' n ?_)
    rw [if_pos rfl]
    exact e
theorem bksF_len (W : Nat) (ls : List Int) (bs : List Bk) : (bksF W ls bs).length ≤ 4 * bs.length := by
  induction bs with
  | nil => exact Nat.le_refl _
  | cons b bs ih =>
    have := codes_len W ls b
    have e : bksF W ls (b :: bs) = (codes W ls b).map (fun c => (labI b, c)) ++ bksF W ls bs := by
      unfold bksF
      rw [List.flatMap_cons]
    rw [e, List.length_append, List.length_map, List.length_cons]
    omega
theorem bksF_app (W : Nat) (ls : List Int) (bs : List Bk) (b : Bk) : bksF W ls (bs ++ [b]) = bksF W ls bs ++ (codes W ls b).map fun c => (labI b, c) := by
  unfold bksF
  rw [List.flatMap_append, List.flatMap_singleton]
theorem codesL0 {W : Nat} {ls : List Int} {l fin : Ed} {body : List Ed} (L : List (Int × Str)) {c1 c2 : Bool} (hE : endB W fin = false) (h1 : c1 = decide (1 < ls.count (valI l))) (h2 : c2 = !body.all (stB W)) :
    ((L ++ if c1 = true then [(valI l, ("twice" : Str))] else []) ++ if c2 = true then [(valI l, ("statement" : Str))] else []) ++ [(valI l, ("end" : Str))] = L ++ (codes W ls (.row l body fin)).map fun c => (valI l, c) := by
  rw [codes_row, hE, h1, h2]
  cases body.all (stB W) <;> by_cases h : 1 < ls.count (valI l) <;> simp [h]
theorem codesL1 {W : Nat} {l0 : Int} {ls : List Int} {l fin : Ed} {body : List Ed} (L : List (Int × Str)) {c1 c2 c3 c4 : Bool} (hE : endB W fin = true) (h1 : c1 = decide (1 < (l0 :: ls).count (valI l))) (h2 : c2 = !body.all (stB W)) (h3 : c3 = !(sucs fin).all fun t => decide (t ∈ l0 :: ls)) (h4 : c4 = decide (l0 ∈ sucs fin)) :
    (((L ++ if c1 = true then [(valI l, ("twice" : Str))] else []) ++ if c2 = true then [(valI l, ("statement" : Str))] else []) ++ if c3 = true then [(valI l, ("target" : Str))] else []) ++ (if c4 = true then [(valI l, ("entry" : Str))] else []) = L ++ (codes W (l0 :: ls) (.row l body fin)).map fun c => (valI l, c) := by
  rw [codes_row, hE, h1, h2, h3, h4]
  simp only [List.headD_cons]
  generalize ((sucs fin).all fun t => decide (t ∈ l0 :: ls)) = c2
  generalize body.all (stB W) = c3
  cases c2 <;> cases c3 <;> by_cases h : 1 < (l0 :: ls).count (valI l) <;> by_cases h5 : l0 ∈ sucs fin <;> simp [h, h5]
theorem cnt_eq (ls : List Int) (l : Int) : decide ((1 : Int) < ((((ls.filter (· == l)).map V.int).length : Nat) : Int)) = decide (1 < ls.count l) := by
  rw [List.length_map, List.count_eq_countP, List.countP_eq_length_filter]
  exact decide_eq_decide.mpr ⟨fun h => by omega, fun h => by omega⟩
theorem all_iff {xs ys : List Int} (h : ∀ t, t ∈ xs ↔ t ∈ ys) {p : Int → Bool} : xs.all p = ys.all p := by
  rw [Bool.eq_iff_iff, List.all_eq_true, List.all_eq_true]
  exact ⟨fun z t ht => z t ((h t).mpr ht), fun z t ht => z t ((h t).mp ht)⟩
/-- the law's targets against the module's -/
theorem end_none {W : Nat} {fin : Ed} (h : endT W fin = none) : endB W fin = false := by
  cases fin with
  | t2 s a =>
    have h : (if s = "go" then (if inI a 0 999 then some [valI a] else none) else if s = "return" then (if isE W 20 a then some [] else none) else none) = none := h
    show (if s = "go" then inI a 0 999 else decide (s = "return") && isE W 20 a) = false
    by_cases h1 : s = "go"
    · rw [if_pos h1] at h ⊢
      cases e : inI a 0 999 with
      | false => rfl
      | true => rw [e] at h; cases h
    · rw [if_neg h1] at h ⊢
      by_cases h2 : s = "return"
      · rw [if_pos h2] at h
        cases e : isE W 20 a with
        | false => rw [Bool.and_false]
        | true => rw [e] at h; cases h
      · rw [decide_eq_false h2]; rfl
  | t4 s a b c =>
    have h : (if s = "if" then (if isE W 20 a && (inI b 0 999 && inI c 0 999) then some [valI b, valI c] else none) else none) = none := h
    show (decide (s = "if") && (isE W 20 a && (inI b 0 999 && inI c 0 999))) = false
    by_cases h1 : s = "if"
    · rw [if_pos h1] at h
      cases e : isE W 20 a && (inI b 0 999 && inI c 0 999) with
      | false => rw [Bool.and_false]
      | true => rw [e] at h; cases h
    · rw [decide_eq_false h1]; rfl
  | _ => rfl
theorem end_some {W : Nat} {fin : Ed} {ts : List Int} (h : endT W fin = some ts) : endB W fin = true ∧ ts.length ≤ 2 ∧ ∀ t, t ∈ ts ↔ t ∈ sucs fin := by
  cases fin with
  | t2 s a =>
    have h : (if s = "go" then (if inI a 0 999 then some [valI a] else none) else if s = "return" then (if isE W 20 a then some [] else none) else none) = some ts := h
    show (if s = "go" then inI a 0 999 else decide (s = "return") && isE W 20 a) = true ∧ _ ∧ ∀ t, t ∈ ts ↔ t ∈ (if s = "go" then [valI a] else [])
    by_cases h1 : s = "go"
    · rw [if_pos h1] at h
      rw [if_pos h1]
      cases e : inI a 0 999 with
      | false => rw [e] at h; cases h
      | true =>
        rw [e] at h
        have := (Option.some.inj h).symm
        subst this
        exact ⟨rfl, by simp, fun t => by rw [if_pos h1]⟩
    · rw [if_neg h1] at h
      rw [if_neg h1]
      by_cases h2 : s = "return"
      · rw [if_pos h2] at h
        cases e : isE W 20 a with
        | false => rw [e] at h; cases h
        | true =>
          rw [e] at h
          have := (Option.some.inj h).symm
          subst this
          exact ⟨by rw [decide_eq_true h2]; rfl, by simp, fun t => by rw [if_neg h1]⟩
      · rw [if_neg h2] at h; cases h
  | t4 s a b c =>
    have h : (if s = "if" then (if isE W 20 a && (inI b 0 999 && inI c 0 999) then some [valI b, valI c] else none) else none) = some ts := h
    show (decide (s = "if") && (isE W 20 a && (inI b 0 999 && inI c 0 999))) = true ∧ _ ∧ ∀ t, t ∈ ts ↔ t ∈ (if valI b = valI c then [valI b] else [valI b, valI c])
    by_cases h1 : s = "if"
    · rw [if_pos h1] at h
      cases e : isE W 20 a && (inI b 0 999 && inI c 0 999) with
      | false => rw [e] at h; cases h
      | true =>
        rw [e] at h
        have := (Option.some.inj h).symm
        subst this
        refine ⟨by rw [decide_eq_true h1]; rfl, by simp, fun t => ?_⟩
        by_cases e2 : valI b = valI c
        · rw [if_pos e2, e2]; simp
        · rw [if_neg e2]
    · rw [if_neg h1] at h; cases h
  | _ => cases h
theorem codes_sub (W : Nat) (ls : List Int) (b : Bk) : ∀ c ∈ codes W ls b, c ∈ ([("twice" : Str), "statement", "end", "target", "entry"] : List Str) := by
  cases b with
  | non => exact fun c h => by cases h
  | row l body fin =>
    intro c h
    rw [codes_row] at h
    simp only [List.mem_append] at h
    rcases h with h | h | h
    · split at h
      · rw [List.mem_singleton] at h; subst h; simp
      · cases h
    · split at h
      · cases h
      · rw [List.mem_singleton] at h; subst h; simp
    · split at h
      · rcases List.mem_append.mp h with h | h
        · split at h
          · cases h
          · rw [List.mem_singleton] at h; subst h; simp
        · split at h
          · rw [List.mem_singleton] at h; subst h; simp
          · cases h
      · rw [List.mem_singleton] at h; subst h; simp
theorem lay_codes : ∀ c ∈ ([("twice" : Str), "statement", "end", "target", "entry"] : List Str), PyData.canLay0 (.str c) = true := by decide +kernel
theorem sh_pD {l : Int} {c : Str} (h : c ∈ ([("twice" : Str), "statement", "end", "target", "entry"] : List Str)) : SeqAt.shaped (pD (l, c)) = true := by
  have := lay_codes c h
  unfold SeqAt.shaped
  rw [show (pD (l, c)).canLay0 = true by simp [pD, PyData.canLay0, PyData.canLayAll0] at this ⊢; exact this, decide_eq_true (show (pD (l, c)).depth ≤ 64 by simp [pD, PyData.depth, PyData.depthAll])]
  rfl
theorem dp_pD {K : PySem.W.Frag} {H : Hp} {p : Int × Str} {v : V} (h : PtP H p v) : Dp K H v (pD p) := by
  obtain ⟨a, rfl, e⟩ := h
  exact .tup (.inl (.of e)) (.cons (.int _) (.cons (.str _) .nil))
theorem dp_pairs {K : PySem.W.Frag} {H : Hp} : ∀ {es : List (Int × Str)} {vs : List V}, Paired (PtP H) es vs → DpAll K H vs (es.map pD)
  | _, _, .nil => .nil
  | _, _, .cons a t => .cons (dp_pD a) (dp_pairs t)
theorem eqv_pD (p q : Int × Str) : PyData.eqv (pD p) (pD q) = decide (p = q) := by
  obtain ⟨a, b⟩ := p
  obtain ⟨c, d⟩ := q
  simp only [pD, PyData.eqv, PyData.eqvAll, Bool.and_true, Prod.mk.injEq, Bool.decide_and]
  by_cases h1 : a = c <;> by_cases h2 : b = d <;> simp [h1, h2]
section
variable {P : Program} {w : World} {K : PySem.W.Frag} {mg : Str → Option Value} {base : Heap}
theorem scLd : FnScope NLd ["value"] (defScope sLDue) := ⟨rfl, rfl, rfl, by decide +kernel, rfl, by decide +kernel, by decide +kernel⟩
theorem ok_ld {f : Addr} {fd : FuncData} (F : Fun K "_law_due" "_law_due" sLDue f fd) (m_len : mg "len" = none) (m_isinstance : mg "isinstance" = none) (m_tuple : mg "tuple" = none) (m_sorted : mg "sorted" = none) (m_range : mg "range" = none)
    (GI : Got P w K mg base 1 "_law_in" ["x", "least", "most"] spWi) (GS : Got P w K mg base 24 "_law_is_statement" ["s", "w"] spLS) (GT : Got P w K mg base 24 "_law_targets" ["end", "w"] spLT) (GB : Got P w K mg base 2 "_law_is_block" ["row"] spLB) : FnOk P w K mg base CX0 25 f fd ["value"] spLD := by
  obtain ⟨fLI, fdLI, GLI, mLI, kLI, bLI⟩ := GI.ex
  obtain ⟨fLS, fdLS, GLS, mLS, kLS, bLS⟩ := GS.ex
  obtain ⟨fLT, fdLT, GLT, mLT, kLT, bLT⟩ := GT.ex
  obtain ⟨fLB, fdLB, GLB, mLB, kLB, bLB⟩ := GB.ex
  refine F.ok scLd (fun vs H Q E h => ?_) (fun cdv A outer s H vs Q E hr h => ?_)
  · obtain ⟨v, x, rfl, _⟩ := h
    rfl
  · obtain ⟨v, x, rfl, hx, h3, q⟩ := h
    have nd := scLd.nd
    have hrI : Room 1 _ := hr.mono (by omega)
    have hrK : Room 2 _ := hr.mono (by omega)
    have hrS : Room 24 _ := hr
    have hrT : Room 24 _ := hr
    have hu40 : (A.deeper (PyProof.Rows.envOfC "_law_due" (defScope sLDue) s.heap.objs.size f cdv)).units + 40 < cLine := by
      have := hr.un
      omega
    refine ⟨_, (pss_cons (ps_if (PW.pt (pw_or (pt_not (pt_val (pe_callB (r := rIsi K) call_isi (by rfl) m_isinstance (by decide +kernel) (pa_cons (pv 0) (pa_cons (pe_bltn (v := .ty "tuple") (by rfl) m_tuple (by decide +kernel) rfl) pa_nil))))) (pw_or (pt_cmpR op_ne (pe_callB (r := rLenS K) call_len_seq (by rfl) m_len PySem.boot_len (pa_cons (pv 0) pa_nil)) pe_int (nomark _)) (pw_or (pt_not (pt_val (pe_call GLI hrI (by rfl) mLI kLI bLI .nil pass0 (pa_cons (pe_ix (r := rIxT K) ix_tup (pv 0) pe_int (fun _ _ => rfl)) (pa_cons pe_int (pa_cons pe_int pa_nil)))))) (pw_or1 (pt_not (pt_val (pe_call GLI hrI (by rfl) mLI kLI bLI .nil pass0 (pa_cons (pe_ix (r := rIxT K) ix_tup (pv 0) pe_int (fun _ _ => rfl)) (pa_cons pe_int (pa_cons pe_int pa_nil))))))))))) (pss_one (ps_ret (pe_lst (pa_cons (pe_tup (pa_cons (pe_un un_neg pe_int) (pa_cons pe_str pa_nil))) pa_nil)))) pss_nil)
 (pss_cons (ps_if (PW.pt (pw_or (pt_not (pt_val (pe_callB (r := rIsi K) call_isi (by rfl) m_isinstance (by decide +kernel) (pa_cons (pe_ix (r := rIxT K) ix_tup (pv 0) pe_int (fun _ _ => rfl)) (pa_cons (pe_bltn (v := .ty "tuple") (by rfl) m_tuple (by decide +kernel) rfl) pa_nil))))) (pw_or (pt_cmpR (r := rEqD K) (op_eqD hr.units) (pe_ix (r := rIxT K) ix_tup (pv 0) pe_int (fun _ _ => rfl)) (pe_tup pa_nil) (nomark _)) (pw_or1 (pt_cmpR (r := rNeD K) (op_neD hr.units) (pe_lc (own := [("row", 8)]) (g := (gName 8)) (tt := _) rfl nd (pi_tup (pe_ix (r := rIxT K) ix_tup (pv 0) pe_int (fun _ _ => rfl))) (blkOk_by (N := NLd) (sc := defScope sLDue) (by decide +kernel)) (fun _ _ _ _ _ => (pg_name (i := 8) nd rfl (.inl rfl))) (fun _ _ _ _ _ => (pts_one (pt_not (pt_val (pe_call GLB hrK (by rfl) mLB kLB bLB .nil pass0 (pa_cons (pv 8) pa_nil)))))) (fun _ _ _ _ _ => (pv 8))) (pe_lst pa_nil) (nomark _)))))) (pss_one (ps_ret (pe_lst (pa_cons (pe_tup (pa_cons (pe_un un_neg pe_int) (pa_cons pe_str pa_nil))) pa_nil)))) pss_nil)
 (pss_cons (ps_set (i := 1) nd rfl (.inr rfl) (pe_lc (own := [("row", 8)]) (g := (gName 8)) (tt := tYes) rfl nd (pi_tup (pe_ix (r := rIxT K) ix_tup (pv 0) pe_int (fun _ _ => rfl))) (blkOk_by (N := NLd) (sc := defScope sLDue) (by decide +kernel)) (fun _ _ _ _ _ => (pg_name (i := 8) nd rfl (.inl rfl))) (fun _ _ _ _ _ => pts_nil) (fun _ _ _ _ _ => (pe_ix (r := rIxT K) ix_tup (pv 8) pe_int (fun _ _ => rfl)))))
 (pss_cons (ps_set (i := 2) nd rfl (.inl rfl) (pe_lst pa_nil))
 (pss_cons (ps_for PassesOwn.never rfl (pi_tup (pe_ix (r := rIxT K) ix_tup (pv 0) pe_int (fun _ _ => rfl))) (pg_tup rfl (pgs_cons (pg_name (i := 3) nd rfl (.inr rfl)) (pgs_cons (pg_name (i := 4) nd rfl (.inl rfl)) (pgs_cons (pg_name (i := 5) nd rfl (.inl rfl)) pgs_nil)))) (pss_cons (ps_if (pt_cmpR op_gt (pe_callB (r := rLenS K) call_len_seq (by rfl) m_len PySem.boot_len (pa_cons (pe_lc (own := [("other", 9)]) (g := (gName 9)) (tt := _) rfl nd (pi_list (pv 1)) (blkOk_by (N := NLd) (sc := defScope sLDue) (by decide +kernel)) (fun _ _ _ _ _ => (pg_name (i := 9) nd rfl (.inl rfl))) (fun _ _ _ _ _ => (pts_one (pt_cmpR (r := rEq) op_eq (pv 9) (pv 3) (nomark _)))) (fun _ _ _ _ _ => (pv 9))) pa_nil)) pe_int (nomark _)) (pss_one (ps_expr (pe_bm PySem.F.plainAttrs_list PySem.F.slot_list_append PySem.F.type_list_append mt_append (pv 2) (pa_cons (pe_tup (pa_cons (pv 3) (pa_cons pe_str pa_nil))) pa_nil)))) pss_nil)
 (pss_cons (ps_if (pt_cmpR (r := rNeD K) (op_neD hr.units) (pe_lc (own := [("s", 10)]) (g := (gName 10)) (tt := _) rfl nd (pi_tup (pv 4)) (blkOk_by (N := NLd) (sc := defScope sLDue) (by decide +kernel)) (fun _ _ _ _ _ => (pg_name (i := 10) nd rfl (.inl rfl))) (fun _ _ _ _ _ => (pts_one (pt_not (pt_val (pe_call GLS hrS (by rfl) mLS kLS bLS .nil pass0 (pa_cons (pv 10) (pa_cons (pe_ix (r := rIxT K) ix_tup (pv 0) pe_int (fun _ _ => rfl)) pa_nil))))))) (fun _ _ _ _ _ => (pv 10))) (pe_lst pa_nil) (nomark _)) (pss_one (ps_expr (pe_bm PySem.F.plainAttrs_list PySem.F.slot_list_append PySem.F.type_list_append mt_append (pv 2) (pa_cons (pe_tup (pa_cons (pv 3) (pa_cons pe_str pa_nil))) pa_nil)))) pss_nil)
 (pss_cons (ps_set (i := 6) nd rfl (.inl rfl) (pe_call GLT hrT (by rfl) mLT kLT bLT .nil pass0 (pa_cons (pv 5) (pa_cons (pe_ix (r := rIxT K) ix_tup (pv 0) pe_int (fun _ _ => rfl)) pa_nil))))
 (pss_one (ps_if (pt_cmpR op_isN (pv 6) pe_non (nomark _)) (pss_one (ps_expr (pe_bm PySem.F.plainAttrs_list PySem.F.slot_list_append PySem.F.type_list_append mt_append (pv 2) (pa_cons (pe_tup (pa_cons (pv 3) (pa_cons pe_str pa_nil))) pa_nil)))) (pss_cons (ps_if (pt_cmpR (r := rNeD K) (op_neD hr.units) (pe_lc (own := [("target", 11)]) (g := (gName 11)) (tt := _) rfl nd (pi_list (pv 6)) (blkOk_by (N := NLd) (sc := defScope sLDue) (by decide +kernel)) (fun _ _ _ _ _ => (pg_name (i := 11) nd rfl (.inl rfl))) (fun _ _ _ _ _ => (pts_one (pt_cmpR (r := rIn K true) op_notIn_seq (pv 11) (pv 1) rfl))) (fun _ _ _ _ _ => (pv 11))) (pe_lst pa_nil) (nomark _)) (pss_one (ps_expr (pe_bm PySem.F.plainAttrs_list PySem.F.slot_list_append PySem.F.type_list_append mt_append (pv 2) (pa_cons (pe_tup (pa_cons (pv 3) (pa_cons pe_str pa_nil))) pa_nil)))) pss_nil)
 (pss_one (ps_if (pt_cmpR (r := rIn K false) op_in_seq (pe_ix (r := rIxL K) ix_list (pv 1) pe_int (fun _ _ => rfl)) (pv 6) rfl) (pss_one (ps_expr (pe_bm PySem.F.plainAttrs_list PySem.F.slot_list_append PySem.F.type_list_append mt_append (pv 2) (pa_cons (pe_tup (pa_cons (pv 3) (pa_cons pe_str pa_nil))) pa_nil)))) pss_nil)))))))))
 (pss_cons (ps_set (i := 7) nd rfl (.inr rfl) (pe_callB (r := GxA.rSortedD K) (GxA.call_sortedData hu40) (by rfl) m_sorted (by decide +kernel) (pa_cons (pv 2) pa_nil)))
 (pss_one (ps_ret (pe_lc (own := [("k", 12)]) (g := (gName 12)) (tt := _) rfl nd (pi_range1 (by rfl) m_range (pa_cons (pe_callB (r := rLenS K) call_len_seq (by rfl) m_len PySem.boot_len (pa_cons (pv 7) pa_nil)) pa_nil)) (blkOk_by (N := NLd) (sc := defScope sLDue) (by decide +kernel)) (fun _ _ _ _ _ => (pg_name (i := 12) nd rfl (.inl rfl))) (fun _ _ _ _ _ => (pts_one (PW.pt (pw_or (pt_cmpR (r := rEq) op_eq (pv 12) pe_int (nomark _)) (pw_or1 (pt_cmpR (r := rNeD K) (op_neD hr.units) (pe_ix (r := rIxL K) ix_list (pv 7) (pv 12) (fun _ _ => rfl)) (pe_ix (r := rIxL K) ix_list (pv 7) (pe_op op_sub (pv 12) pe_int) (fun _ _ => rfl)) (nomark _))))))) (fun _ _ _ _ _ => (pe_ix (r := rIxL K) ix_list (pv 7) (pv 12) (fun _ _ => rfl)))))))))))), ?_⟩
    have l1 : (2 : Nat) ≤ sizeLine := by decide
    have l2 : (1 : Nat) ≤ sizeLine := by decide
    have k1 : kitB "NoneType" "tuple" = some false := by decide +kernel
    have k2 : kitB "int" "tuple" = some false := by decide +kernel
    have k3 : kitB "tuple" "tuple" = some true := by decide +kernel
    cases x with
    | non =>
      obtain rfl : v = .non := hx
      exact ⟨_, rfl, _, _, _, _, _, rfl, .ty "tuple", .base .non, kit_ty k1, _, rfl, iteT (iteT ⟨_, rfl, l1, fun ta hta => ⟨l2, form_ret q rfl (Same.refl H) ta hta⟩⟩)⟩
    | int i =>
      obtain rfl : v = .int i := hx
      exact ⟨_, rfl, _, _, _, _, _, rfl, .ty "tuple", .base (.int i), kit_ty k2, _, rfl, iteT (iteT ⟨_, rfl, l1, fun ta hta => ⟨l2, form_ret q rfl (Same.refl H) ta hta⟩⟩)⟩
    | two w p =>
      obtain ⟨a, wv, pv, rfl, ha, hw, hp⟩ := hx
      exact ⟨_, rfl, _, _, _, _, _, rfl, .ty "tuple", .base (.tup ha), kit_ty k3, _, rfl, iteF ⟨_, rfl, a, _, rfl, .inr (.of ha), rfl, _, rfl, iteT (iteT ⟨_, rfl, l1, fun ta hta => ⟨l2, form_ret q rfl (Same.refl H) ta hta⟩⟩)⟩⟩
    | three w p bs =>
      have hd : ∃ (a : Addr) (wv pv bv : V), v = .ref a ∧ H a = some (.tup [wv, pv, bv]) ∧ EdAt H w wv ∧ EdAt H p pv ∧ match bs with | none => bv = .non | some bs => ∃ bb us, bv = .ref bb ∧ H bb = some (.tup us) ∧ Paired (BkAt H) bs us := by
        cases bs with
        | none =>
          obtain ⟨a, wv, pv, e1, e2, e3, e4⟩ := hx
          exact ⟨a, wv, pv, _, e1, e2, e3, e4, rfl⟩
        | some bs =>
          obtain ⟨a, bb, wv, pv, us, e1, e2, e3, e4, e5, e6⟩ := hx
          exact ⟨a, wv, pv, _, e1, e2, e3, e4, bb, us, rfl, e5, e6⟩
      obtain ⟨a, wv, pv, bv, rfl, ha, hw, hp, hbs⟩ := hd
      have raw_no : formB (.three w p bs) = false → rawF (.three w p bs) = [(-1, ("form" : Str))] := fun e => by
        cases bs with
        | none => rfl
        | some bs =>
          show (if formB _ then _ else _) = _
          rw [e]
          rfl
      refine ⟨_, rfl, _, _, _, _, _, rfl, .ty "tuple", .base (.tup ha), kit_ty k3, _, rfl, iteF ⟨_, rfl, a, _, rfl, .inr (.of ha), rfl, _, rfl, iteF ⟨_, rfl, a, _, _, _, rfl, rfl, .of ha, atI_nat (j := 0) rfl, wv, 1, 16, w, rfl, hw, _, rfl, ?_⟩⟩⟩
      cases h1 : inI w 1 16 with
      | false =>
        have e := raw_no (by cases bs <;> simp [formB, h1])
        exact iteT (iteT ⟨_, rfl, l1, fun ta hta => ⟨l2, form_ret q e (Same.refl H) ta hta⟩⟩)
      | true =>
      refine iteF ⟨_, rfl, a, _, _, _, rfl, rfl, .of ha, atI_nat (j := 1) rfl, pv, 0, 6, p, rfl, hp, _, rfl, ?_⟩
      cases h2 : inI p 0 6 with
      | false =>
        have e := raw_no (by cases bs <;> simp [formB, h1, h2])
        exact iteT ⟨_, rfl, l1, fun ta hta => ⟨l2, form_ret q e (Same.refl H) ta hta⟩⟩
      | true =>
      refine iteF ⟨_, rfl, a, _, _, _, rfl, rfl, .of ha, atI_nat (j := 2) rfl, ?_⟩
      cases bs with
      | none =>
        obtain rfl : bv = .non := hbs
        exact ⟨_, _, _, _, _, rfl, .ty "tuple", .base .non, kit_ty k1, _, rfl, iteT (iteT ⟨_, rfl, l1, fun ta hta => ⟨l2, form_ret q rfl (Same.refl H) ta hta⟩⟩)⟩
      | some bs =>
      obtain ⟨bb, us, rfl, hbb, pb⟩ := hbs
      have lb := pb.length
      obtain ⟨h40, hb3⟩ : bs.length ≤ 40 ∧ ∀ b ∈ bs, Bk3 b := h3
      refine ⟨_, _, _, _, _, rfl, .ty "tuple", .base (.tup hbb), kit_ty k3, _, rfl, iteF ⟨_, rfl, a, _, _, _, rfl, rfl, .of ha, atI_nat (j := 2) rfl, Nat.zero_le _, fun pe hpe => ?_⟩⟩
      have s1 := same_new (o := .tup []) hpe
      have he1 : (upd H pe (.tup [])) pe = some (.tup []) := upd_same
      generalize upd H pe (.tup []) = H1 at s1 he1 ⊢
      have pb1 := L2.Paired.mapP pb fun _ _ z => BkAt.mono (Tups.of s1) z
      refine ⟨.tuple (bs.map bkD), .tuple [], .tup (.inl (.of (s1 _ _ hbb))) (dp_bks pb1), .tup (.inl (.of he1)) .nil, (sh_bks hb3).2, rfl, _, rfl, ?_⟩
      rw [eqv_nilT]
      by_cases hne : bs = []
      · subst hne
        have e := raw_no (by simp [formB, h1, h2])
        exact iteT (iteT ⟨_, rfl, l1, fun ta hta => ⟨l2, form_ret q e s1 ta hta⟩⟩)
      rw [show (bs.map bkD).isEmpty = false by cases bs with | nil => exact absurd rfl hne | cons _ _ => rfl]
      refine iteF ?_
      refine ⟨_, rfl, a, _, _, _, rfl, rfl, .of (s1 _ _ ha), atI_nat (j := 2) rfl, bb, rfl, ⟨_, .of (s1 _ _ hbb)⟩, fun D hD => lc_tup (xs := us) (fun i H' => ∃ acc, H' D = some (.lst acc) ∧ Paired (BkAt H1) ((bs.take i).filter fun b => !blkB b) acc ∧ Same H1 H') ⟨[], upd_same, .nil, same_new hD⟩ ?_ ?_ ?_⟩
      · rintro i H' _ ⟨_, _, _, sm⟩
        exact .of (sm _ _ (s1 _ _ hbb))
      · rintro i x H2 hx ⟨acc, hD2, pa, s2⟩
        obtain ⟨b, hb, hat⟩ := prd_get' pb1 hx
        have il : i < bs.length := (List.getElem?_eq_some_iff.mp hb).1
        have etk : bs.take (i + 1) = bs.take i ++ [b] := by
          rw [List.take_add_one, hb]
          rfl
        have la := pa.length
        have lf := List.length_filter_le (fun b => !blkB b) (bs.take i)
        rw [List.length_take] at lf
        refine ⟨rfl, _, rfl, x, b, rfl, hat.mono (Tups.of s2), _, rfl, ?_⟩
        rw [etk, filt_snoc]
        cases blkB b with
        | false => exact iteT ⟨_, rfl, _, hD2, big (by omega), _, upd_same, prd_app pa (.cons hat .nil), sput s2 hD⟩
        | true =>
          refine iteF ⟨_, hD2, ?_, s2⟩
          rw [if_neg (by decide), List.append_nil]
          exact pa
      · rintro H2 ⟨acc, hD2, pa, s2⟩
        rw [← lb, List.take_length] at pa
        refine ⟨Nat.zero_le _, fun pe2 hpe2 => ?_⟩
        have s3 := same_new (o := .lst []) hpe2
        have he3 : (upd H2 pe2 (.lst [])) pe2 = some (.lst []) := upd_same
        generalize upd H2 pe2 (.lst []) = H3 at s3 he3 ⊢
        have s13 := s2.trans s3
        have s03 := s1.trans s13
        have pa3 := L2.Paired.mapP pa fun _ _ z => BkAt.mono (Tups.of s13) z
        refine ⟨.list ((bs.filter fun b => !blkB b).map bkD), .list [], .lst (.inl (.of (s3 _ _ hD2))) (dp_bks pa3), .lst (.inl (.of he3)) .nil, (sh_bks fun b hb => hb3 b (List.mem_filter.mp hb).1).1, rfl, _, rfl, ?_⟩
        rw [eqv_nilL, show ((bs.filter fun b => !blkB b).map bkD).isEmpty = (bs.filter fun b => !blkB b).isEmpty by cases (bs.filter fun b => !blkB b) <;> rfl, filt_empty]
        cases hall0 : bs.all blkB with
        | false =>
          have e := raw_no (by simp [formB, h1, h2, hall0])
          exact iteT ⟨_, rfl, l1, fun ta hta => ⟨l2, form_ret q e s03 ta hta⟩⟩
        | true =>
          refine iteF ?_
          have hf : formB (.three w p (some bs)) = true := by
            show (inI w 1 16 && (inI p 0 6 && (decide (1 ≤ bs.length) && bs.all blkB))) = true
            rw [h1, h2, hall0, decide_eq_true (show 1 ≤ bs.length by cases bs with | nil => exact absurd rfl hne | cons _ _ => simp)]
            rfl
          have hall := List.all_eq_true.mp hall0
          have hwv : wv = .int ((widI w : Nat) : Int) ∧ widI w ≤ 16 := by
            have e := in_val h1
            rw [e] at hw h1
            simp only [inI, Bool.and_eq_true, decide_eq_true_eq] at h1
            have hw : wv = .int (valI w) := hw
            unfold widI
            refine ⟨by rw [hw, Int.toNat_of_nonneg (by omega)], by omega⟩
          obtain ⟨rfl, hW⟩ := hwv
          have at_ : ∀ {H' : Hp}, Same H H' → ∀ i x, us[i]? = some x → ∃ l body fin xa bd fv ub, bs[i]? = some (Bk.row l body fin) ∧ x = V.ref xa ∧ H' xa = some (HO.tup [V.int (valI l), V.ref bd, fv]) ∧ H' bd = some (HO.tup ub) ∧ Paired (EdAt H') body ub ∧ EdAt H' fin fv ∧ isT fin = true := fun t i x hx => by
            obtain ⟨b, hb, hat⟩ := prd_get' pb hx
            have hv := hall b (List.mem_of_getElem? hb)
            cases b with
            | non => cases hv
            | row l body fin =>
              have hat' := hat.mono (Tups.of t)
              obtain ⟨xa, bd, lv, fv, ub, e1, e2, e3, e4, e5, e6⟩ := hat'
              have hv : (inI l 0 999 && isT fin) = true := hv
              rw [Bool.and_eq_true] at hv
              have el : lv = .int (valI l) := by rw [in_val hv.1] at e3; exact e3
              subst el
              exact ⟨l, body, fin, xa, bd, fv, ub, hb, e1, e2, e4, e5, e6, hv.2⟩
          clear hD2 pa hD he3 he1
          refine ⟨_, rfl, a, _, _, _, rfl, rfl, .of (s03 _ _ ha), atI_nat (j := 2) rfl, bb, rfl, ⟨_, .of (s03 _ _ hbb)⟩, fun Dl hDl => lc_tup (xs := us) (fun i H' => H' Dl = some (.lst (((bs.take i).map labI).map V.int)) ∧ Same H3 H') ⟨upd_same, same_new hDl⟩ ?_ ?_ ?_⟩
          · rintro i H' _ ⟨_, sm⟩
            exact .of (sm _ _ (s03 _ _ hbb))
          · rintro i x H4 hx ⟨hD4, s4⟩
            obtain ⟨l, body, fin, xa, bd, fv, ub, hb, rfl, hxa, _⟩ := at_ (s03.trans s4) i x hx
            have il : i < bs.length := (List.getElem?_eq_some_iff.mp hb).1
            have etk : bs.take (i + 1) = bs.take i ++ [.row l body fin] := by
              rw [List.take_add_one, hb]
              rfl
            refine ⟨rfl, tYes_go ⟨_, rfl, xa, _, _, _, rfl, rfl, .of hxa, atI_nat (j := 0) rfl, _, hD4, ?_, ?_, sput s4 hDl⟩⟩
            · rw [List.length_map, List.length_map, List.length_take]
              exact big (by omega)
            · rw [upd_same, etk, List.map_append, List.map_append]
              rfl
          · rintro H4 ⟨hD4, s4⟩
            rw [← lb, List.take_length] at hD4
            have s04 := s03.trans s4
            refine ⟨Nat.zero_le _, fun fa hfa => ?_⟩
            have s5 := same_new (o := .lst []) hfa
            have hf5 : LAt (upd H4 fa (.lst [])) fa [] := ⟨[], upd_same, .nil⟩
            have fDl := s5 _ _ hD4
            have ndl : Dl ≠ fa := fun z => by rw [z, hfa] at hD4; cases hD4
            have ffa := s04.free hfa
            have s05 := s04.trans s5
            generalize upd H4 fa (.lst []) = H5 at s5 hf5 fDl s05 ⊢
            obtain ⟨l0, ls, els⟩ : ∃ l0 ls, bs.map labI = l0 :: ls := by
              cases bs with
              | nil => exact absurd rfl hne
              | cons b bs => exact ⟨_, _, rfl⟩
            rw [els] at fDl
            refine ⟨_, rfl, a, _, _, _, rfl, rfl, .of (s05 _ _ ha), atI_nat (j := 2) rfl, bb, rfl, ⟨_, .of (s05 _ _ hbb)⟩, for_tup (xs := us) (fun i σ H' => ∃ y3 y4 y5 y6, σ = [some (.ref a), some (.ref Dl), some (.ref fa), y3, y4, y5, y6, none, none, none, none, none, none] ∧ Same H H' ∧ H' Dl = some (.lst ((l0 :: ls).map V.int)) ∧ LAt H' fa (bksF (widI w) (l0 :: ls) (bs.take i))) ⟨none, none, none, none, rfl, s05, fDl, hf5⟩ ?_ ?_ ?_⟩
            · rintro i σ H' _ ⟨_, _, _, _, rfl, sm, _⟩
              exact .of (sm _ _ hbb)
            · rintro i x σ H6 hx ⟨y3, y4, y5, y6, rfl, s6, hl6, hf6⟩
              obtain ⟨l, body, fin, xa, bd, fv, ub, hb, rfl, hxa, hbd, pub, hfv, hti⟩ := at_ (Same.refl H) i x hx
              have il : i < bs.length := (List.getElem?_eq_some_iff.mp hb).1
              have etk : bs.take (i + 1) = bs.take i ++ [.row l body fin] := by
                rw [List.take_add_one, hb]
                rfl
              obtain ⟨_, hb3', _, hb60⟩ : Ed3 l ∧ (∀ e ∈ body, Ed3 e) ∧ Ed3 fin ∧ body.length ≤ 60 := hb3 _ (List.mem_of_getElem? hb)
              refine ⟨xa, _, rfl, .of (s6 _ _ hxa), rfl, _, _, rfl, _, _, rfl, _, _, rfl, rfl, ?_⟩
              have ol : ∀ {A B : Hp}, Same H A → (∀ z o, z ≠ fa → A z = some o → B z = some o) → Same H B := fun kA n b o e => n _ _ (fun z => by rw [z, ffa] at e; cases e) (kA b o e)
              have lcat : ∀ {A B : Hp} {L}, Same A B → LAt A fa L → LAt B fa L := fun sm ⟨vs, e1, e2⟩ => ⟨vs, sm _ _ e1, L2.Paired.mapP e2 fun _ _ z => z.mono (Tups.of sm)⟩
              have clen := bksF_len (widI w) (l0 :: ls) (bs.take i)
              rw [List.length_take] at clen
              refine ⟨_, rfl, Dl, rfl, ⟨_, .of hl6⟩, fun D hD => lc_list (xs := (l0 :: ls).map V.int) (fun j H' => H' D = some (.lst ((((l0 :: ls).take j).filter (· == valI l)).map V.int)) ∧ Same H6 H') ⟨upd_same, same_new hD⟩ ?_ ?_ ?_⟩
              · rintro j H' _ ⟨_, sm⟩
                exact .of (sm _ _ hl6)
              · rintro j y H7 hy ⟨hD7, s7⟩
                rw [List.getElem?_map] at hy
                obtain ⟨t, ht, rfl⟩ := Option.map_eq_some_iff.mp hy
                have jl : j < (l0 :: ls).length := (List.getElem?_eq_some_iff.mp ht).1
                have ll : (l0 :: ls).length = bs.length := by rw [← els, List.length_map]
                have etk2 : (l0 :: ls).take (j + 1) = (l0 :: ls).take j ++ [t] := by
                  rw [List.take_add_one, ht]
                  rfl
                have lf := List.length_filter_le (· == valI l) ((l0 :: ls).take j)
                rw [List.length_take] at lf
                refine ⟨rfl, _, rfl, _, rfl, rfl, _, rfl, ?_⟩
                rw [dI, etk2, filt_snoc]
                cases (t == valI l) with
                | true => exact iteT ⟨_, rfl, _, hD7, by rw [List.length_map]; exact big (by omega), by rw [upd_same, List.map_append]; rfl, sput s7 hD⟩
                | false =>
                  refine iteF ⟨?_, s7⟩
                  rw [if_neg (by decide), List.append_nil]
                  exact hD7
              · rintro H7 ⟨hD7, s7⟩
                rw [List.length_map, List.take_length] at hD7
                refine ⟨D, _, rfl, .inl (.of hD7), _, _, rfl, rfl, _, rfl, ap_leafP (fa := fa) (l := valI l) rfl rfl (lcat s7 hf6) (by omega) fun H8 n8 hf8 => ?_⟩
                have s8 := ol (s6.trans s7) n8
                have hl8 := n8 _ _ ndl (s7 _ _ hl6)
                have lub := pub.length
                refine ⟨_, rfl, bd, rfl, ⟨_, .of (s8 _ _ hbd)⟩, fun D2 hD2 => lc_tup (xs := ub) (fun j H' => ∃ acc, H' D2 = some (.lst acc) ∧ Paired (EdAt H) ((body.take j).filter fun e => !stB (widI w) e) acc ∧ Same H8 H') ⟨[], upd_same, .nil, same_new hD2⟩ ?_ ?_ ?_⟩
                · rintro j H' _ ⟨_, _, _, sm⟩
                  exact .of (sm _ _ (s8 _ _ hbd))
                · rintro j y H9 hy ⟨acc, hD9, pa, s9⟩
                  obtain ⟨e, he, hat⟩ := prd_get' pub hy
                  have jl : j < body.length := (List.getElem?_eq_some_iff.mp he).1
                  have etk2 : body.take (j + 1) = body.take j ++ [e] := by
                    rw [List.take_add_one, he]
                    rfl
                  have la := pa.length
                  have lf := List.length_filter_le (fun e => !stB (widI w) e) (body.take j)
                  rw [List.length_take] at lf
                  have s09 := s8.trans s9
                  refine ⟨rfl, _, rfl, _, rfl, a, _, _, _, rfl, rfl, .of (s09 _ _ ha), atI_nat (j := 0) rfl, y, e, widI w, rfl, hat.mono (Tups.of s09), hW, fun H10 s10 => ⟨_, rfl, ?_⟩⟩
                  rw [etk2, filt_snoc]
                  cases stB (widI w) e with
                  | false => exact iteT ⟨_, rfl, _, s10 _ _ hD9, big (by omega), _, upd_same, prd_app pa (.cons hat .nil), sput (s9.trans s10) hD2⟩
                  | true =>
                    refine iteF ⟨_, s10 _ _ hD9, ?_, s9.trans s10⟩
                    rw [if_neg (by decide), List.append_nil]
                    exact pa
                · rintro H9 ⟨acc, hD9, pa, s9⟩
                  rw [← lub, List.take_length] at pa
                  refine ⟨Nat.zero_le _, fun pe3 hpe3 => ?_⟩
                  have s10 := same_new (o := .lst []) hpe3
                  have he10 : (upd H9 pe3 (.lst [])) pe3 = some (.lst []) := upd_same
                  generalize upd H9 pe3 (.lst []) = H10 at s10 he10 ⊢
                  have s810 := s9.trans s10
                  have s010 := s8.trans s810
                  refine ⟨.list ((body.filter fun e => !stB (widI w) e).map edD), .list [], .lst (.inl (.of (s10 _ _ hD9))) (dp_eds (L2.Paired.mapP pa fun _ _ z => z.mono (Tups.of s010))), .lst (.inl (.of he10)) .nil, sh_eds (fun e he => hb3' e (List.mem_filter.mp he).1), rfl, _, rfl, ?_⟩
                  rw [eqv_nilL, show ((body.filter fun e => !stB (widI w) e).map edD).isEmpty = (body.filter fun e => !stB (widI w) e).isEmpty by cases (body.filter fun e => !stB (widI w) e) <;> rfl, filt_empty]
                  refine ap_leafP (fa := fa) (l := valI l) rfl rfl (lcat s810 hf8) (by rw [List.length_append]; split <;> simp <;> omega) fun H11 n11 hf11 => ?_
                  have s11 := ol s010 n11
                  have hl11 := n11 _ _ ndl (s810 _ _ hl8)
                  refine ⟨_, rfl, _, rfl, a, _, _, _, rfl, rfl, .of (s11 _ _ ha), atI_nat (j := 0) rfl, fv, fin, widI w, rfl, hfv.mono (Tups.of s11), hti, hW, fun en H12 s12 => ?_, fun ts et r H12 s12 hr0 hr12 => ?_⟩
                  · refine ⟨_, rfl, rfl, _, rfl, ?_⟩
                    show if decide (V.non = V.non) = true then _ else _
                    rw [decide_eq_true rfl]
                    refine iteT (ap_P (fa := fa) (l := valI l) rfl rfl (lcat s12 hf11) (by rw [List.length_append, List.length_append]; split <;> split <;> simp <;> omega) fun H13 n13 hf13 => ⟨_, _, _, _, rfl, ol (s11.trans s12) n13, n13 _ _ ndl (s12 _ _ hl11), ?_⟩)
                    rw [etk, bksF_app]
                    have := codesL0 (ls := l0 :: ls) (l := l) (body := body) (bksF (widI w) (l0 :: ls) (bs.take i)) (end_none en) (cnt_eq (l0 :: ls) (valI l)) rfl
                    rw [this] at hf13
                    exact hf13
                  · obtain ⟨eb, l2', tm⟩ := end_some et
                    refine ⟨_, rfl, rfl, _, rfl, ?_⟩
                    show if decide (V.ref r = V.non) = true then _ else _
                    rw [decide_eq_false (fun z => by cases z)]
                    have nr : r ≠ fa := fun z => by
                      obtain ⟨vs, e1, _⟩ := hf11
                      rw [z, e1] at hr0
                      cases hr0
                    have s012 := s11.trans s12
                    have hl12 := s12 _ _ hl11
                    refine iteF ⟨_, rfl, r, rfl, ⟨_, .of hr12⟩, fun D3 hD3 => lc_list (xs := ts.map V.int) (fun j H' => H' D3 = some (.lst (((ts.take j).filter fun t => !decide (t ∈ l0 :: ls)).map V.int)) ∧ Same H12 H') ⟨upd_same, same_new hD3⟩ ?_ ?_ ?_⟩
                    · rintro j H' _ ⟨_, sm⟩
                      exact .of (sm _ _ hr12)
                    · rintro j y H13 hy ⟨hD13, s13⟩
                      rw [List.getElem?_map] at hy
                      obtain ⟨t, ht, rfl⟩ := Option.map_eq_some_iff.mp hy
                      have jl : j < ts.length := (List.getElem?_eq_some_iff.mp ht).1
                      have etk2 : ts.take (j + 1) = ts.take j ++ [t] := by
                        rw [List.take_add_one, ht]
                        rfl
                      have lf := List.length_filter_le (fun t => !decide (t ∈ l0 :: ls)) (ts.take j)
                      rw [List.length_take] at lf
                      refine ⟨rfl, _, rfl, _, rfl, Dl, _, rfl, .inl (.of (s13 _ _ hl12)), rfl, flatI _, _, rfl, ?_⟩
                      show if (!inV (.int t) ((l0 :: ls).map V.int)) = true then _ else _
                      rw [inV_mapI, etk2, filt_snoc]
                      cases decide (t ∈ l0 :: ls) with
                      | false => exact iteT ⟨_, rfl, _, hD13, by rw [List.length_map]; exact big (by omega), by rw [upd_same, List.map_append]; rfl, sput s13 hD3⟩
                      | true =>
                        refine iteF ⟨?_, s13⟩
                        rw [if_neg (by decide), List.append_nil]
                        exact hD13
                    · rintro H13 ⟨hD13, s13⟩
                      rw [List.length_map, List.take_length] at hD13
                      refine ⟨Nat.zero_le _, fun pe4 hpe4 => ?_⟩
                      have s14 := same_new (o := .lst []) hpe4
                      have he14 : (upd H13 pe4 (.lst [])) pe4 = some (.lst []) := upd_same
                      generalize upd H13 pe4 (.lst []) = H14 at s14 he14 ⊢
                      have s1214 := s13.trans s14
                      refine ⟨.list ((ts.filter fun t => !decide (t ∈ l0 :: ls)).map PyData.int), .list [], .lst (.inl (.of (s14 _ _ hD13))) (dp_ints _), .lst (.inl (.of he14)) .nil, sh_ints _, rfl, _, rfl, ?_⟩
                      rw [eqv_nilL, show ((ts.filter fun t => !decide (t ∈ l0 :: ls)).map PyData.int).isEmpty = (ts.filter fun t => !decide (t ∈ l0 :: ls)).isEmpty by cases (ts.filter fun t => !decide (t ∈ l0 :: ls)) <;> rfl, filt_empty]
                      refine ap_leafP (fa := fa) (l := valI l) rfl rfl (lcat s1214 (lcat s12 hf11)) (by rw [List.length_append, List.length_append]; split <;> split <;> simp <;> omega) fun H15 n15 hf15 => ?_
                      have s15 := ol (s012.trans s1214) n15
                      have hl15 := n15 _ _ ndl (s1214 _ _ hl12)
                      have hr15 := n15 _ _ nr (s1214 _ _ hr12)
                      refine ⟨_, rfl, Dl, _, _, _, rfl, rfl, .of hl15, atI_nat (j := 0) rfl, _, rfl, r, _, rfl, .inl (.of hr15), rfl, flatI _, _, rfl, ?_⟩
                      show if inV (.int l0) (ts.map V.int) = true then _ else _
                      rw [inV_mapI]
                      refine ap_leafP (fa := fa) (l := valI l) rfl rfl hf15 (by rw [List.length_append, List.length_append, List.length_append]; split <;> split <;> split <;> simp <;> omega) fun H16 n16 hf16 => ⟨_, _, _, _, rfl, ol s15 n16, n16 _ _ ndl hl15, ?_⟩
                      rw [etk, bksF_app]
                      have := codesL1 (ls := ls) (l0 := l0) (l := l) (body := body) (c4 := decide (l0 ∈ ts)) (bksF (widI w) (l0 :: ls) (bs.take i)) eb (cnt_eq (l0 :: ls) (valI l)) rfl (c3 := !ts.all fun t => decide (t ∈ l0 :: ls)) (by rw [all_iff tm]) (decide_eq_decide.mpr (tm l0))
                      rw [this] at hf16
                      exact hf16
            · rintro σ H6 ⟨y3, y4, y5, y6, rfl, s6, hl6, hf6⟩
              rw [← lb, List.take_length] at hf6
              obtain ⟨vs, e1, e2⟩ := hf6
              have hraw : ∀ z, z ∈ bksF (widI w) (l0 :: ls) bs ↔ z ∈ rawF (.three w p (some bs)) := fun z => by
                show _ ↔ z ∈ (if formB _ then _ else _)
                rw [hf, els]
                rfl
              have hok : ∀ p ∈ bksF (widI w) (l0 :: ls) bs, SeqAt.shaped (pD p) = true := fun p hp => by
                obtain ⟨b, _, hc⟩ := List.mem_flatMap.mp hp
                obtain ⟨c, hc2, rfl⟩ := List.mem_map.mp hc
                exact sh_pD (codes_sub _ _ b c hc2)
              have hrl : (bksF (widI w) (l0 :: ls) bs).length ≤ 160 := by
                have := bksF_len (widI w) (l0 :: ls) bs
                omega
              generalize bksF (widI w) (l0 :: ls) bs = raw at hraw hok hrl e2 ⊢
              refine ⟨_, rfl, fa, vs, raw.map pD, rfl, .of e1, dp_pairs e2, all_alike raw, all_sortable raw, fun d hd => ?_, fun rr hrr => ?_⟩
              · obtain ⟨p, hp, rfl⟩ := List.mem_map.mp hd
                simp [pD, PyData.depth, PyData.depthAll]
              obtain ⟨L, p1, p2, p3⟩ := srt_res (zip_pairs e2) e2.length.symm
              have lL := p3.length
              generalize (GxA.srtD vs (raw.map pD)).map Prod.fst = rws at p3 lL ⊢
              have s7 := same_new (o := .lst rws) hrr
              have hr7 : (upd H6 rr (.lst rws)) rr = some (.lst rws) := upd_same
              generalize upd H6 rr (.lst rws) = H7 at s7 hr7 ⊢
              have s07 := s6.trans s7
              have p37 := L2.Paired.mapP p3 fun _ _ z => z.mono (Tups.of s7)
              have hln : rws.length ≤ 100000 := by
                have := p1.length_eq
                omega
              refine ⟨_, rfl, rr, _, rfl, .inl (.of hr7), _, rfl, by omega, ?_, fun D hD => lc_range (lo := 0) (n := ((rws.length : Nat) : Int).toNat) (fun i H' => ∃ acc, H' D = some (.lst acc) ∧ Paired (PtP H7) (dd none (L.take i)) acc ∧ acc.length ≤ i ∧ Same H7 H') ⟨[], upd_same, .nil, Nat.le_refl _, same_new hD⟩ ?_ ?_⟩
              · omega
              · rintro i H8 hi ⟨acc, hD8, pa, la, s8⟩
                have hi : i < rws.length := by rw [Int.toNat_natCast] at hi; exact hi
                obtain ⟨x, hx, hat⟩ := prd_get' p37 (List.getElem?_eq_getElem hi)
                have hr8 := s8 _ _ hr7
                have etk : L.take (i + 1) = L.take i ++ [x] := by
                  rw [List.take_add_one, hx]
                  rfl
                have xraw := p1.mem_iff.mp (List.mem_of_getElem? hx)
                rw [show (0 : Int) + (i : Int) = (i : Int) by omega]
                refine ⟨rfl, _, rfl, rfl, _, rfl, ?_⟩
                rw [dI, etk, dd_append]
                cases i with
                | zero =>
                  refine iteT (iteT ⟨_, rfl, _, rfl, rr, _, _, _, rfl, rfl, .of hr8, atI_nat (j := 0) (List.getElem?_eq_getElem hi), _, hD8, big (by omega), _, upd_same, ?_, ?_, sput s8 hD⟩)
                  · show Paired _ (dd none [] ++ (if (none : Option (Int × Str)) = some x then [] else [x])) _
                    rw [if_neg (by simp)]
                    exact prd_app pa (.cons hat .nil)
                  · rw [List.length_append]
                    show acc.length + 1 ≤ 0 + 1
                    omega
                | succ i =>
                  rw [show (((i + 1 : Nat) : Int) == 0) = false by simp; omega]
                  have hi' : i < rws.length := by omega
                  obtain ⟨y, hy, hat'⟩ := prd_get' p37 (List.getElem?_eq_getElem hi')
                  have yraw := p1.mem_iff.mp (List.mem_of_getElem? hy)
                  have eg : (L.take (i + 1)).getLast? = some y := by
                    rw [List.take_add_one, hy]
                    exact List.getLast?_concat ..
                  rw [eg]
                  refine iteF ⟨_, rfl, _, rfl, rr, _, _, _, rfl, rfl, .of hr8, atI_nat (List.getElem?_eq_getElem hi), _, rfl, _, rfl, _, _, rfl, rfl, rr, rws, _, rws[i], rfl, rfl, .of hr8, ?_, pD x, pD y, dp_pD (hat.mono (Tups.of s8)), dp_pD (hat'.mono (Tups.of s8)), hok x xraw, hok y yraw, _, rfl, ?_⟩
                  · rw [show ((i + 1 : Nat) : Int) - 1 = (i : Int) by omega]
                    exact atI_nat (List.getElem?_eq_getElem hi')
                  · rw [eqv_pD]
                    by_cases e : x = y
                    · rw [decide_eq_true e]
                      refine iteF ⟨acc, hD8, ?_, by omega, s8⟩
                      show Paired _ (dd none (L.take (i + 1)) ++ (if some y = some x then [] else [x])) _
                      rw [if_pos (by rw [e]), List.append_nil]
                      exact pa
                    · rw [decide_eq_false e]
                      refine iteT ⟨_, rfl, _, rfl, rr, _, _, _, rfl, rfl, .of hr8, atI_nat (List.getElem?_eq_getElem hi), _, hD8, big (by omega), _, upd_same, ?_, ?_, sput s8 hD⟩
                      · show Paired _ (dd none (L.take (i + 1)) ++ (if some y = some x then [] else [x])) _
                        rw [if_neg (fun z => e (Option.some.inj z).symm)]
                        exact prd_app pa (.cons hat .nil)
                      · rw [List.length_append]
                        show acc.length + 1 ≤ i + 1 + 1
                        omega
              · rintro H8 ⟨acc, hD8, pa, la, s8⟩
                rw [Int.toNat_natCast, ← lL, List.take_length] at pa
                refine q D H8 (dd none L) (s07.trans s8) (s07.free hD) ⟨acc, hD8, L2.Paired.mapP pa fun _ _ z => z.mono (Tups.of s8)⟩ ⟨(dd_sorted none L p2 (fun y e => by cases e)).1, fun p => ?_⟩
                rw [← hraw p, ← p1.mem_iff]
                exact ⟨dd_sub none L p, fun h => (dd_mem none L p h).elim id fun z => by cases z⟩
end
end K0

set_option Elab.async false
set_option linter.all false
set_option maxRecDepth 100000
set_option maxHeartbeats 1000000
namespace K0
open PySem L2
abbrev NWr : List Str := ["draw", "w", "deep", "k", "rows"]
/-- an expression that lays what e is -/
def Bt (σ : L2.St) (H0 : Hp) (te : TE) (e : Ed) : Prop := ∀ (H : Hp) (Q : VK), Same H0 H → (∀ v H', Same H H' → EdAt H' e v → Q v H') → te σ H Q
def BtL (σ : L2.St) (H0 : Hp) (ta : TA) (es : List Ed) : Prop := ∀ (H : Hp) (Q : List V → Hp → Prop), Same H0 H → (∀ vs H', Same H H' → Paired (EdAt H') es vs → Q vs H') → ta σ H Q
section
variable {σ : L2.St} {H0 : Hp}
theorem Bt.int (i : Int) : Bt σ H0 (tC (.int i)) (.int i) := fun H Q s q => q _ H (Same.refl H) rfl
theorem Bt.neg (i : Int) : Bt σ H0 (tUn (rU fun i => V.int (-i)) (tC (.int i))) (.int (-i)) := fun H Q s q => ⟨_, rfl, q _ H (Same.refl H) rfl⟩
theorem Bt.bl (b : Bool) : Bt σ H0 (tC (.bl b)) (.bl b) := fun H Q s q => q _ H (Same.refl H) rfl
theorem Bt.str (x : Str) : Bt σ H0 (tC (.str x)) (.str x) := fun H Q s q => q _ H (Same.refl H) rfl
theorem Bt.non : Bt σ H0 (tC .non) .non := fun H Q s q => q _ H (Same.refl H) rfl
theorem Bt.var {i : Nat} {v : V} {e : Ed} (h : σ[i]? = some (some v)) (a : EdAt H0 e v) : Bt σ H0 (tVar i) e := fun H Q s q => ⟨v, h, q v H (Same.refl H) (a.mono (Tups.of s))⟩
theorem BtL.nil : BtL σ H0 tNil [] := fun H Q s q => q [] H (Same.refl H) .nil
theorem BtL.cons {te : TE} {ta : TA} {e : Ed} {es : List Ed} (h : Bt σ H0 te e) (t : BtL σ H0 ta es) : BtL σ H0 (tCons te ta) (e :: es) := fun H Q s q => h H _ s fun v H1 s1 a => t H1 _ (s.trans s1) fun vs H2 s2 p => q _ H2 (s1.trans s2) (.cons (a.mono (Tups.of s2)) p)
theorem Bt.t0 : Bt σ H0 (tTup tNil) .t0 := fun H Q s q => ⟨Nat.zero_le _, fun p hp => q _ _ (same_new hp) ⟨p, rfl, upd_same⟩⟩
theorem Bt.t1 (x : Str) : Bt σ H0 (tTup (tCons (tC (.str x)) tNil)) (.t1 x) := fun H Q s q => ⟨(by show 1 ≤ sizeLine; decide), fun p hp => q _ _ (same_new hp) ⟨p, rfl, upd_same⟩⟩
theorem Bt.t2 (x : Str) {te : TE} {e : Ed} (h : Bt σ H0 te e) : Bt σ H0 (tTup (tCons (tC (.str x)) (tCons te tNil))) (.t2 x e) := fun H Q s q => h H _ s fun v H1 s1 a =>
  ⟨(by show 2 ≤ sizeLine; decide), fun p hp => q _ _ (s1.trans (same_new hp)) ⟨p, v, rfl, upd_same, a.mono (Tups.of (same_new hp))⟩⟩
theorem Bt.t3 (x : Str) {te tf : TE} {e f : Ed} (h : Bt σ H0 te e) (h2 : Bt σ H0 tf f) : Bt σ H0 (tTup (tCons (tC (.str x)) (tCons te (tCons tf tNil)))) (.t3 x e f) := fun H Q s q => h H _ s fun v H1 s1 a => h2 H1 _ (s.trans s1) fun v2 H2 s2 a2 =>
  ⟨(by show 3 ≤ sizeLine; decide), fun p hp => q _ _ ((s1.trans s2).trans (same_new hp)) ⟨p, v, v2, rfl, upd_same, a.mono (Tups.of (s2.trans (same_new hp))), a2.mono (Tups.of (same_new hp))⟩⟩
theorem Bt.t4 (x : Str) {te tf tg : TE} {e f g : Ed} (h : Bt σ H0 te e) (h2 : Bt σ H0 tf f) (h3 : Bt σ H0 tg g) : Bt σ H0 (tTup (tCons (tC (.str x)) (tCons te (tCons tf (tCons tg tNil))))) (.t4 x e f g) := fun H Q s q => h H _ s fun v H1 s1 a => h2 H1 _ (s.trans s1) fun v2 H2 s2 a2 => h3 H2 _ ((s.trans s1).trans s2) fun v3 H3 s3 a3 =>
  ⟨(by show 4 ≤ sizeLine; decide), fun p hp => q _ _ (((s1.trans s2).trans s3).trans (same_new hp)) ⟨p, v, v2, v3, rfl, upd_same, a.mono (Tups.of ((s2.trans s3).trans (same_new hp))), a2.mono (Tups.of (s3.trans (same_new hp))), a3.mono (Tups.of (same_new hp))⟩⟩
theorem asg_lst {ta : TA} {i : Nat} {R : TS} {D : Ends} {es : List Ed} (b : BtL σ H0 ta es) (l : es.length ≤ 100) (k : ∀ vs H' p, Same H0 H' → H' p = some (.lst vs) → Paired (EdAt H') es vs → R D (σ.set i (some (.ref p))) H') : tSeq (tAsg (tLst ta) (gName i)) R D σ H0 :=
  b H0 _ (Same.refl H0) fun vs H1 s1 p => ⟨Nat.le_of_lt (big (by have := p.length; omega)), fun q hq => k vs _ q (s1.trans (same_new hq)) upd_same (L2.Paired.mapP p fun _ _ z => z.mono (Tups.of (same_new hq)))⟩
end
/-- not quite as deep -/
def Ed4 (e : Ed) : Prop := e.ok ∧ e.deep ≤ 23
def notN : Nat → Ed
  | 0 => .t2 "var" (.int 1)
  | n + 1 => .t2 "not" (notN n)
def spWr : Sp := fun vs H Q _ => ∃ (d c : Addr) (ns : List Int) (W : Nat), vs = [.ref d, .int (W : Int)] ∧ Drd H d c ns ∧ W ≤ 16 ∧ ∀ v H' e, Drd H' d c ns → Keep d H H' → EdAt H' e v → Ed4 e → Q v H'
theorem not_ok : ∀ n, n ≤ 20 → Ed4 (notN n) := by
  have h : ∀ n, (notN n).ok ∧ (notN n).deep = n + 2 := fun n => by
    induction n with
    | zero => exact ⟨⟨by decide +kernel, trivial⟩, rfl⟩
    | succ n ih =>
      refine ⟨⟨by decide +kernel, ih.1⟩, ?_⟩
      show (notN n).deep + 1 = n + 1 + 2
      omega
  exact fun n hn => ⟨(h n).1, by have := (h n).2; omega⟩
/-- the wrong ones, the last but one the deep one -/
def wrongs (W : Nat) (e : Ed) : List Ed := [.t2 "int" (.int (2 ^ W - 1 + 1)), .t2 "int" (.bl true), .t2 "var" (.int 100), .t2 "var" (.int (-1)), .t3 "div" (.t2 "int" (.int 0)) (.t2 "int" (.int 0)), .t2 "add" (.t2 "int" (.int 0)), .non, .t1 "int", .t3 "not" (.t2 "int" (.int 0)) (.t2 "int" (.int 0)), .str "v1", e, .t2 "load" (.int 3)]
theorem wr_ok {W n : Nat} (hn : n ≤ 20) : ∀ e ∈ wrongs W (notN n), Ed4 e := by
  intro e he
  have hd := not_ok n hn
  unfold wrongs at he
  generalize notN n = x at he hd
  simp only [List.mem_cons, List.not_mem_nil, or_false] at he
  rcases he with rfl | rfl | rfl | rfl | rfl | rfl | rfl | rfl | rfl | rfl | rfl | rfl
  · exact ⟨⟨by decide +kernel, trivial⟩, by show 2 ≤ 23; decide⟩
  · exact ⟨⟨by decide +kernel, trivial⟩, by show 2 ≤ 23; decide⟩
  · exact ⟨⟨by decide +kernel, trivial⟩, by show 2 ≤ 23; decide⟩
  · exact ⟨⟨by decide +kernel, trivial⟩, by show 2 ≤ 23; decide⟩
  · exact ⟨⟨by decide +kernel, ⟨by decide +kernel, trivial⟩, by decide +kernel, trivial⟩, by show 3 ≤ 23; decide⟩
  · exact ⟨⟨by decide +kernel, by decide +kernel, trivial⟩, by show 3 ≤ 23; decide⟩
  · exact ⟨trivial, by show 1 ≤ 23; decide⟩
  · exact ⟨(by decide +kernel : PyData.canLay0 (.str "int") = true), by show 1 ≤ 23; decide⟩
  · exact ⟨⟨by decide +kernel, ⟨by decide +kernel, trivial⟩, by decide +kernel, trivial⟩, by show 3 ≤ 23; decide⟩
  · exact ⟨(by decide +kernel : PyData.canLay0 (.str "v1") = true), by show 1 ≤ 23; decide⟩
  · exact hd
  · exact ⟨⟨by decide +kernel, trivial⟩, by show 2 ≤ 23; decide⟩
theorem Keep.tups {d c : Addr} {ns : List Int} {H H' : Hp} (D : Drd H d c ns) (k : Keep d H H') : Tups H H' := fun b xs e => k b _ e (fun z => by
  obtain ⟨_, _, _, D⟩ := D
  rw [z, D.at_] at e
  cases e)
section
variable {P : Program} {w : World} {K : PySem.W.Frag} {mg : Str → Option Value} {base : Heap}
theorem scWr : FnScope NWr ["draw", "w"] (defScope sLWr) := ⟨rfl, rfl, rfl, by decide +kernel, rfl, by decide +kernel, by decide +kernel⟩
theorem ok_wr {f : Addr} {fd : FuncData} (F : Fun K "_law_wrong" "_law_wrong" sLWr f fd) (m_len : mg "len" = none) (m_range : mg "range" = none)
    (GT : Got P w K mg base 1 "_law_take" ["draw", "many"] spTake) (GL : Got P w K mg base 1 "_law_top" ["w"] spTop) : FnOk P w K mg base CX0 2 f fd ["draw", "w"] spWr := by
  obtain ⟨fT, fdT, GT, mT, kT, bT⟩ := GT.ex
  obtain ⟨fL, fdL, GL, mL, kL, bL⟩ := GL.ex
  refine F.ok scWr (fun vs H Q E h => ?_) (fun cdv A outer s H vs Q E hr h => ?_)
  · obtain ⟨d, c, ns, W, rfl, _⟩ := h
    rfl
  · obtain ⟨d, c, ns, W, rfl, D0, hW, q⟩ := h
    have nd := scWr.nd
    have hr1 : Room 1 _ := hr
    refine ⟨_, (pss_cons (ps_set (i := 2) nd rfl (.inl rfl) (pe_tup (pa_cons pe_str (pa_cons pe_int pa_nil))))
 (pss_cons (ps_for PassesOwn.never rfl (pi_range1 (by rfl) m_range (pa_cons (pe_op op_add pe_int (pe_call GT hr1 (by rfl) mT kT bT .nil pass0 (pa_cons (pv 0) (pa_cons pe_int pa_nil)))) pa_nil)) (pg_name (i := 3) nd rfl (.inl rfl)) (pss_one (ps_set (i := 2) nd rfl (.inl rfl) (pe_tup (pa_cons pe_str (pa_cons (pv 2) pa_nil))))))
 (pss_cons (ps_set (i := 4) nd rfl (.inl rfl) (pe_lst (pa_cons (pe_tup (pa_cons pe_str (pa_cons (pe_op op_add (pe_call GL hr1 (by rfl) mL kL bL .nil pass0 (pa_cons (pv 1) pa_nil)) pe_int) pa_nil))) (pa_cons (pe_tup (pa_cons pe_str (pa_cons pe_bl pa_nil))) (pa_cons (pe_tup (pa_cons pe_str (pa_cons pe_int pa_nil))) (pa_cons (pe_tup (pa_cons pe_str (pa_cons (pe_un un_neg pe_int) pa_nil))) (pa_cons (pe_tup (pa_cons pe_str (pa_cons (pe_tup (pa_cons pe_str (pa_cons pe_int pa_nil))) (pa_cons (pe_tup (pa_cons pe_str (pa_cons pe_int pa_nil))) pa_nil)))) (pa_cons (pe_tup (pa_cons pe_str (pa_cons (pe_tup (pa_cons pe_str (pa_cons pe_int pa_nil))) pa_nil))) (pa_cons pe_non (pa_cons (pe_tup (pa_cons pe_str pa_nil)) (pa_cons (pe_tup (pa_cons pe_str (pa_cons (pe_tup (pa_cons pe_str (pa_cons pe_int pa_nil))) (pa_cons (pe_tup (pa_cons pe_str (pa_cons pe_int pa_nil))) pa_nil)))) (pa_cons pe_str (pa_cons (pv 2) (pa_cons (pe_tup (pa_cons pe_str (pa_cons pe_int pa_nil))) pa_nil))))))))))))))
 (pss_one (ps_ret (pe_ix (r := rIxL K) ix_list (pv 4) (pe_call GT hr1 (by rfl) mT kT bT .nil pass0 (pa_cons (pv 0) (pa_cons (pe_callB (r := rLenS K) call_len_seq (by rfl) m_len PySem.boot_len (pa_cons (pv 4) pa_nil)) pa_nil))) (fun _ _ => rfl))))))), ?_⟩
    refine ⟨(by show 2 ≤ sizeLine; decide), fun p hp => ?_⟩
    have s1 := same_new (o := .tup [.str "var", .int 1]) hp
    have h1 : EdAt (upd H p (.tup [.str "var", .int 1])) (notN 0) (.ref p) := ⟨p, _, rfl, upd_same, rfl⟩
    have D1 := D0.same s1
    generalize upd H p (.tup [.str "var", .int 1]) = H1 at s1 h1 D1 ⊢
    refine ⟨_, rfl, d, c, ns, 2, rfl, D1, by decide, by decide, fun z H2 hz D2 kp2 => ?_⟩
    refine ⟨_, _, rfl, rfl, _, rfl, by omega, by omega, for_range (lo := 0) (n := ((19 : Int) + (z : Int)).toNat) (fun i σ H' => ∃ v y3, σ = [some (.ref d), some (.int (W : Int)), some v, y3, none] ∧ EdAt H' (notN i) v ∧ Drd H' d c ns ∧ Keep d H H') ⟨_, none, rfl, EdAt.mono (Keep.tups D1 kp2) h1, D2, (Keep.of s1).trans kp2⟩ ?_ ?_⟩
    · rintro i σ H3 hi ⟨v, y3, rfl, hv, D3, k3⟩
      refine ⟨_, rfl, (by show 2 ≤ sizeLine; decide), fun p3 hp3 => ⟨_, _, rfl, ⟨p3, _, rfl, upd_same, hv.mono (Tups.of (same_new hp3))⟩, D3.same (same_new hp3), k3.trans (Keep.of (same_new hp3))⟩⟩
    · rintro σ H3 ⟨v, y3, rfl, hv, D3, k3⟩
      have hn : ((19 : Int) + (z : Int)).toNat ≤ 20 := by omega
      generalize ((19 : Int) + (z : Int)).toNat = n at hv hn
      have BT : Bt [some (.ref d), some (.int (W : Int)), some v, y3, none] H3 (tOp (rI0 fun i j => V.int (i + j)) (tCall spTop [] E0 (tCons (tVar 1) tNil)) (tC (V.int 1))) (.int (2 ^ W - 1 + 1)) := fun H Q s q => ⟨_, rfl, W, rfl, hW, _, _, rfl, rfl, q _ H (Same.refl H) rfl⟩
      have i0 : Bt [some (.ref d), some (.int (W : Int)), some v, y3, none] H3 (tTup (tCons (tC (.str "int")) (tCons (tC (.int 0)) tNil))) (.t2 "int" (.int 0)) := Bt.t2 "int" (Bt.int 0)
      refine asg_lst (es := wrongs W (notN n)) (BtL.cons (Bt.t2 "int" BT) (BtL.cons (Bt.t2 "int" (Bt.bl true)) (BtL.cons (Bt.t2 "var" (Bt.int 100)) (BtL.cons (Bt.t2 "var" (Bt.neg 1)) (BtL.cons (Bt.t3 "div" i0 i0) (BtL.cons (Bt.t2 "add" i0) (BtL.cons Bt.non (BtL.cons (Bt.t1 "int") (BtL.cons (Bt.t3 "not" i0 i0) (BtL.cons (Bt.str "v1") (BtL.cons (Bt.var rfl hv) (BtL.cons (Bt.t2 "load" (Bt.int 3)) BtL.nil)))))))))))) (by show 12 ≤ 100; decide) fun vs H4 rp s4 hr4 p4 => ?_
      have lv : vs.length = 12 := p4.length.symm
      refine ⟨_, rfl, _, rfl, _, rfl, rp, _, rfl, .inl (.of hr4), d, c, ns, _, rfl, D3.same s4, by omega, by omega, fun z5 H5 hz5 D5 k5 => ?_⟩
      have hz : z5 < vs.length := by omega
      have nrd : rp ≠ d := fun z => by
        obtain ⟨_, _, _, D⟩ := D3.same s4
        rw [z, D.at_] at hr4
        have := HO.lst.inj (Option.some.inj hr4)
        rw [← this] at lv
        cases lv
      obtain ⟨e, he, hat⟩ := prd_get' p4 (List.getElem?_eq_getElem hz)
      exact ⟨rp, vs, _, vs[z5], rfl, rfl, .of (k5 _ _ hr4 nrd), atI_nat (List.getElem?_eq_getElem hz), q _ H5 e D5 (k3.trans ((Keep.of s4).trans k5)) (hat.mono (Keep.tups (D3.same s4) k5)) (wr_ok hn e (List.mem_of_getElem? he))⟩
end
end K0

set_option Elab.async false
set_option linter.all false
set_option maxRecDepth 100000
set_option maxHeartbeats 1000000
namespace K0
open PySem L2
abbrev NBe : List Str := ["draw", "function", "w", "params", "blocks", "at", "label", "body", "end", "k", "e"]
/-- a value of a size -/
def Vk (k : Nat) : Va → Prop
  | .three _ _ (some bs) => bs.length ≤ 10 + k ∧ ∀ b ∈ bs, Bk3 b ∧ bodyN b ≤ 10 + k
  | _ => True
theorem Vk.va3 {k : Nat} {x : Va} (h : Vk k x) (hk : k ≤ 10) : Va3 x := by
  cases x with
  | three w p bs =>
    cases bs with
    | none => trivial
    | some bs =>
      obtain ⟨h1, h2⟩ : bs.length ≤ 10 + k ∧ ∀ b ∈ bs, Bk3 b ∧ bodyN b ≤ 10 + k := h
      exact ⟨by omega, fun b hb => (h2 b hb).1⟩
  | _ => trivial
theorem Vk.small {k : Nat} {x : Va} (h : Vk k x) (hk : k ≤ 10) : x.small := by
  cases x with
  | three w p bs =>
    cases bs with
    | none => trivial
    | some bs =>
      obtain ⟨h1, h2⟩ : bs.length ≤ 10 + k ∧ ∀ b ∈ bs, Bk3 b ∧ bodyN b ≤ 10 + k := h
      exact ⟨by omega, fun b hb => by have := (h2 b hb).2; omega⟩
  | _ => trivial
theorem prd_take {α β : Type} {F : α → β → Prop} : ∀ {xs : List α} {ys : List β}, Paired F xs ys → ∀ n, Paired F (xs.take n) (ys.take n)
  | _, _, .nil, n => by rw [List.take_nil, List.take_nil]; exact .nil
  | _, _, .cons a t, 0 => .nil
  | _, _, .cons a t, n + 1 => .cons a (prd_take t n)
theorem prd_drop {α β : Type} {F : α → β → Prop} : ∀ {xs : List α} {ys : List β}, Paired F xs ys → ∀ n, Paired F (xs.drop n) (ys.drop n)
  | _, _, .nil, n => by rw [List.drop_nil, List.drop_nil]; exact .nil
  | _, _, .cons a t, 0 => .cons a t
  | _, _, .cons a t, n + 1 => prd_drop t n
def spBe : Sp := fun vs H Q _ => ∃ (k : Nat) (d c : Addr) (ns : List Int) (v : V) (x : Va), vs = [.ref d, v] ∧ k ≤ 5 ∧ Drd H d c ns ∧ VaAt H x v ∧ formB x = true ∧ Vk k x ∧ ∀ v' H' x', Drd H' d c ns → Keep d H H' → VaAt H' x' v' → Vk (k + 1) x' → Q v' H'
def ends (e l l0 : Ed) : List Ed := [.t2 "return" e, .t4 "if" e l l, .t2 "go" (.int 998), .t2 "go" (.int 1000), .t2 "go" l0, .t4 "if" (.t2 "int" (.int 0)) (.int 998) l, .t1 "go", .t2 "halt" (.int 1), .t1 "return", .t0]
theorem lab_small {l : Ed} (h : inI l 0 999 = true) : l.ok ∧ l.deep ≤ 1 := by
  rw [in_val h]
  exact ⟨trivial, Nat.le_refl _⟩
theorem end_ok {e l l0 : Ed} (h : Ed4 e) (hl : l.ok ∧ l.deep ≤ 1) (h0 : l0.ok ∧ l0.deep ≤ 1) : ∀ x ∈ ends e l l0, Ed3 x := by
  obtain ⟨h1, h2⟩ := h
  obtain ⟨g1, g2⟩ := hl
  intro x hx
  unfold ends at hx
  simp only [List.mem_cons, List.not_mem_nil, or_false] at hx
  rcases hx with rfl | rfl | rfl | rfl | rfl | rfl | rfl | rfl | rfl | rfl
  · exact ⟨⟨by decide +kernel, h1⟩, by show e.deep + 1 ≤ 25; omega⟩
  · exact ⟨⟨by decide +kernel, h1, g1, g1⟩, by show max e.deep (max l.deep l.deep) + 1 ≤ 25; omega⟩
  · exact ⟨⟨by decide +kernel, trivial⟩, by show 2 ≤ 25; decide⟩
  · exact ⟨⟨by decide +kernel, trivial⟩, by show 2 ≤ 25; decide⟩
  · exact ⟨⟨by decide +kernel, h0.1⟩, by show l0.deep + 1 ≤ 25; have := h0.2; omega⟩
  · exact ⟨⟨by decide +kernel, ⟨by decide +kernel, trivial⟩, trivial, g1⟩, by show max 2 (max 1 l.deep) + 1 ≤ 25; omega⟩
  · exact ⟨(by decide +kernel : PyData.canLay0 (.str "go") = true), by show 1 ≤ 25; decide⟩
  · exact ⟨⟨by decide +kernel, trivial⟩, by show 2 ≤ 25; decide⟩
  · exact ⟨(by decide +kernel : PyData.canLay0 (.str "return") = true), by show 1 ≤ 25; decide⟩
  · exact ⟨trivial, by show 1 ≤ 25; decide⟩
theorem flat_ok : ∀ x ∈ ([.int 999, .int 1000, .int (-1), .bl true] : List Ed), Ed3 x := by
  intro x hx
  simp only [List.mem_cons, List.not_mem_nil, or_false] at hx
  rcases hx with rfl | rfl | rfl | rfl <;> exact ⟨trivial, by show 1 ≤ 25; decide⟩
theorem body_ok {e : Ed} (h : Ed4 e) : ∀ x ∈ ([.t3 "set" (.int 1) e, .t2 "write" e, .t3 "store" e (.t2 "int" (.int 0)), .t3 "set" (.int 100) (.t2 "int" (.int 0)), .t2 "set" (.int 1), .non, .t2 "skip" (.int 1), .t0] : List Ed), Ed3 x := by
  obtain ⟨h1, h2⟩ := h
  intro x hx
  simp only [List.mem_cons, List.not_mem_nil, or_false] at hx
  rcases hx with rfl | rfl | rfl | rfl | rfl | rfl | rfl | rfl
  · exact ⟨⟨by decide +kernel, trivial, h1⟩, by show max 1 e.deep + 1 ≤ 25; omega⟩
  · exact ⟨⟨by decide +kernel, h1⟩, by show e.deep + 1 ≤ 25; omega⟩
  · exact ⟨⟨by decide +kernel, h1, by decide +kernel, trivial⟩, by show max e.deep 2 + 1 ≤ 25; omega⟩
  · exact ⟨⟨by decide +kernel, trivial, by decide +kernel, trivial⟩, by show 3 ≤ 25; decide⟩
  · exact ⟨⟨by decide +kernel, trivial⟩, by show 2 ≤ 25; decide⟩
  · exact ⟨trivial, by show 1 ≤ 25; decide⟩
  · exact ⟨⟨by decide +kernel, trivial⟩, by show 2 ≤ 25; decide⟩
  · exact ⟨trivial, by show 1 ≤ 25; decide⟩
section
variable {K : PySem.W.Frag}
theorem sl_take {bb : Addr} {us : List V} {z : Nat} {H : Hp} {Q : VK} (hz : z < us.length) (h : H bb = some (.tup us)) (q : ∀ p H', Same H H' → H' p = some (.tup (us.take z)) → Q (.ref p) H') : rSlA K (.ref bb) none (some (z : Int)) H Q := by
  refine ⟨bb, us, rfl, .of h, fun e => ?_, fun _ p hp => q p _ (same_new hp) ?_⟩
  · rw [HT.sIx_nat] at e
    omega
  · rw [upd_same]
    unfold cutV
    rw [HT.sIx_none, HT.sIx_nat, List.drop_zero, Nat.sub_zero, Nat.min_eq_left (by omega)]
theorem sl_drop {bb : Addr} {us : List V} {z : Nat} {H : Hp} {Q : VK} (hz : z < us.length) (h : H bb = some (.tup us)) (q : ∀ p H', Same H H' → H' p = some (.tup (us.drop (z + 1))) → Q (.ref p) H') : rSlA K (.ref bb) (some ((z : Int) + 1)) none H Q := by
  rw [show (z : Int) + 1 = ((z + 1 : Nat) : Int) from rfl]
  refine ⟨bb, us, rfl, .of h, fun e => ?_, fun _ p hp => q p _ (same_new hp) ?_⟩
  · rw [HT.sIx_nat] at e
    omega
  · rw [upd_same]
    unfold cutV
    rw [HT.sIx_none, HT.sIx_nat, Nat.min_eq_left (by omega)]
    rw [← List.length_drop, List.take_length]
theorem cat_tup {a b : Addr} {xs ys : List V} {H : Hp} {Q : VK} (ha : H a = some (.tup xs)) (hb : H b = some (.tup ys)) (l : xs.length + ys.length ≤ 1000) (q : ∀ p H', Same H H' → H' p = some (.tup (xs ++ ys)) → Q (.ref p) H') : rCatA K (.ref a) (.ref b) H Q := by
  refine ⟨a, b, xs, ys, rfl, rfl, .of ha, .of hb, Nat.le_of_lt (big (by omega)), fun e => ?_, fun _ e => ?_, fun _ _ p hp => q p _ (same_new hp) upd_same⟩
  · subst e
    exact q b H (Same.refl H) hb
  · subst e
    exact q a H (Same.refl H) (by rw [List.append_nil]; exact ha)
theorem fin_ret {a d bb bd : Addr} {W z : Nat} {pv lv fv : V} {y9 y10 : Option V} {us ub : List V} {w p l fin : Ed} {body : List Ed} {bs : List Bk} {H : Hp} {D : Ends} (hw : EdAt H w (.int (W : Int))) (hp : EdAt H p pv) (hz : z < us.length) (hlu : us.length ≤ 100) (hbb : H bb = some (.tup us)) (pb : Paired (BkAt H) bs us)
    (hl : EdAt H l lv) (hbd : H bd = some (.tup ub)) (pub : Paired (EdAt H) body ub) (hf : EdAt H fin fv)
    (q : ∀ v' H', Same H H' → VaAt H' (.three w p (some (bs.take z ++ [.row l body fin] ++ bs.drop (z + 1)))) v' → D.rt v' H') :
    tRet (tTup (tCons (tVar 2) (tCons (tVar 3) (tCons (tOp (rCatA K) (tOp (rCatA K) (tSl (rSlA K) (tVar 4) tNoPart (tPart (tVar 5))) (tTup (tCons (tTup (tCons (tVar 6) (tCons (tVar 7) (tCons (tVar 8) tNil)))) tNil))) (tSl (rSlA K) (tVar 4) (tPart (tOp (rI0 fun i j => V.int (i + j)) (tVar 5) (tC (.int 1)))) tNoPart)) tNil)))) D
      [some (.ref d), some (.ref a), some (.int (W : Int)), some pv, some (.ref bb), some (.int (z : Int)), some lv, some (.ref bd), some fv, y9, y10] H := by
  refine ⟨_, rfl, _, rfl, _, rfl, _, rfl, _, rfl, sl_take hz hbb fun p1 H1 s1 h1 => ⟨_, rfl, _, rfl, _, rfl, (by show 3 ≤ sizeLine; decide), fun p2 hp2 => ?_⟩⟩
  have s2 := same_new (o := .tup [lv, .ref bd, fv]) hp2
  have h2 : (upd H1 p2 (.tup [lv, .ref bd, fv])) p2 = some (.tup [lv, .ref bd, fv]) := upd_same
  generalize upd H1 p2 (.tup [lv, .ref bd, fv]) = H2 at s2 h2 ⊢
  refine ⟨(by show 1 ≤ sizeLine; decide), fun p3 hp3 => ?_⟩
  have s3 := same_new (o := .tup [.ref p2]) hp3
  have h3 : (upd H2 p3 (.tup [.ref p2])) p3 = some (.tup [.ref p2]) := upd_same
  generalize upd H2 p3 (.tup [.ref p2]) = H3 at s3 h3 ⊢
  have lt := List.length_take_le z us
  have ld : (us.drop (z + 1)).length ≤ us.length := by rw [List.length_drop]; omega
  refine cat_tup (s3 _ _ (s2 _ _ h1)) h3 (by show (us.take z).length + 1 ≤ 1000; omega) fun p4 H4 s4 h4 => ?_
  have s04 := ((s1.trans s2).trans s3).trans s4
  refine ⟨_, rfl, _, rfl, _, _, rfl, rfl, _, rfl, ?_⟩
  dsimp only [tNoPart]
  refine sl_drop hz (s04 _ _ hbb) fun p5 H5 s5 h5 => ?_
  refine cat_tup (s5 _ _ h4) h5 (by rw [List.length_append]; show (us.take z).length + 1 + _ ≤ 1000; omega) fun p6 H6 s6 h6 => ?_
  refine ⟨(by show 3 ≤ sizeLine; decide), fun p7 hp7 => ?_⟩
  have s7 := same_new (o := .tup [.int (W : Int), pv, .ref p6]) hp7
  have s07 := ((s04.trans s5).trans s6).trans s7
  have t07 := Tups.of s07
  have s27 := (((s3.trans s4).trans s5).trans s6).trans s7
  refine q _ _ s07 ⟨p7, p6, _, _, _, rfl, upd_same, hw.mono t07, hp.mono t07, s7 _ _ h6, ?_⟩
  have pb7 := L2.Paired.mapP pb fun _ _ z => BkAt.mono t07 z
  exact prd_app (prd_app (prd_take pb7 z) (.cons ⟨p2, bd, lv, fv, ub, rfl, s27 _ _ h2, hl.mono t07, s07 _ _ hbd, L2.Paired.mapP pub fun _ _ z => EdAt.mono t07 z, hf.mono t07⟩ .nil)) (prd_drop pb7 (z + 1))
theorem pick_lst {ta : TA} {σ : L2.St} {H : Hp} {Q : VK} {es : List Ed} {d c : Addr} {ns : List Int} {m : Nat} (b : BtL σ H ta es) (l : es.length = m) (h5 : 1 ≤ m) (hm : m ≤ 100) (D : Drd H d c ns) (hd : σ[0]? = some (some (.ref d)))
    (k : ∀ v H' e, Drd H' d c ns → Keep d H H' → e ∈ es → EdAt H' e v → Q v H') : tOp (rIxL K) (tLst ta) (tCall spTake [] E0 (tCons (tVar 0) (tCons (tC (.int (m : Int))) tNil))) σ H Q :=
  b H _ (Same.refl H) fun vs H1 s1 p => ⟨Nat.le_of_lt (big (by have := p.length; omega)), fun q hq => by
    have lv := p.length
    have s2 := same_new (o := .lst vs) hq
    have h2 : (upd H1 q (.lst vs)) q = some (.lst vs) := upd_same
    generalize upd H1 q (.lst vs) = H2 at s2 h2 ⊢
    have D2 := D.same (s1.trans s2)
    refine ⟨_, hd, d, c, ns, (m : Int), rfl, D2, by omega, by omega, fun z H3 hz D3 k3 => ?_⟩
    have hz' : z < vs.length := by omega
    have nrd : q ≠ d := fun w => by
      obtain ⟨_, _, _, Dx⟩ := D.same s1
      have := Dx.at_
      rw [← w, hq] at this
      cases this
    obtain ⟨e, he, hat⟩ := prd_get' p (List.getElem?_eq_getElem hz')
    exact ⟨q, vs, _, vs[z], rfl, rfl, .of (k3 _ _ h2 nrd), atI_nat (List.getElem?_eq_getElem hz'), k _ H3 e D3 ((Keep.of (s1.trans s2)).trans k3) (List.mem_of_getElem? he) (hat.mono (Tups.trans (Tups.of s2) (Keep.tups D2 k3)))⟩⟩
theorem asg_pick {ta : TA} {σ : L2.St} {H : Hp} {i : Nat} {D : Ends} {es : List Ed} {d c : Addr} {ns : List Int} {m : Nat} (b : BtL σ H ta es) (l : es.length = m) (h5 : 1 ≤ m) (hm : m ≤ 100) (Dd : Drd H d c ns) (hd : σ[0]? = some (some (.ref d)))
    (k : ∀ v H' e, Drd H' d c ns → Keep d H H' → e ∈ es → EdAt H' e v → D.nx (σ.set i (some v)) H') : tAsg (tOp (rIxL K) (tLst ta) (tCall spTake [] E0 (tCons (tVar 0) (tCons (tC (.int (m : Int))) tNil)))) (gName i) D σ H := by
  unfold tAsg
  exact pick_lst b l h5 hm Dd hd fun v H' e D' k' he a => k v H' e D' k' he a
theorem asg_body {ta : TA} {σ : L2.St} {H : Hp} {D : Ends} {es : List Ed} {d c bd : Addr} {ub : List V} {body : List Ed} {ns : List Int} {m : Nat} (b : BtL σ H ta es) (l : es.length = m) (h5 : 1 ≤ m) (hm : m ≤ 100) (Dd : Drd H d c ns) (hd : σ[0]? = some (some (.ref d)))
    (h7 : σ[7]? = some (some (.ref bd))) (hbd : H bd = some (.tup ub)) (pub : Paired (EdAt H) body ub) (hl : ub.length ≤ 100)
    (k : ∀ p H' e us', Drd H' d c ns → Keep d H H' → e ∈ es → H' p = some (.tup us') → Paired (EdAt H') (body ++ [e]) us' → D.nx (σ.set 7 (some (.ref p))) H') :
    tAsg (tOp (rCatA K) (tVar 7) (tTup (tCons (tOp (rIxL K) (tLst ta) (tCall spTake [] E0 (tCons (tVar 0) (tCons (tC (.int (m : Int))) tNil)))) tNil))) (gName 7) D σ H := by
  refine ⟨_, h7, ?_⟩
  unfold tTup tCons
  refine pick_lst b l h5 hm Dd hd fun v H1 e D1 k1 he a => ?_
  have t1 := Keep.tups Dd k1
  refine ⟨(by show 1 ≤ sizeLine; decide), fun q hq => ?_⟩
  have s2 := same_new (o := .tup [v]) hq
  have h2 : (upd H1 q (.tup [v])) q = some (.tup [v]) := upd_same
  generalize upd H1 q (.tup [v]) = H2 at s2 h2 ⊢
  refine cat_tup (s2 _ _ (t1 _ _ hbd)) h2 (by show ub.length + 1 ≤ 1000; omega) fun p H3 s3 h3 => ?_
  have s13 := s2.trans s3
  exact k p H3 e _ (D1.same s13) (k1.trans (Keep.of s13)) he h3 (prd_app (L2.Paired.mapP pub fun _ _ z => EdAt.mono (Tups.trans t1 (Tups.of s13)) z) (.cons (a.mono (Tups.of s13)) .nil))
theorem ret_w {ta : TA} {σ : L2.St} {H : Hp} {D : Ends} {es : List Ed} {d c bb : Addr} {us : List V} {p : Ed} {pv : V} {bs : List Bk} {ns : List Int} {m : Nat} (b : BtL σ H ta es) (l : es.length = m) (h5 : 1 ≤ m) (hm : m ≤ 100) (Dd : Drd H d c ns) (hd : σ[0]? = some (some (.ref d)))
    (h3 : σ[3]? = some (some pv)) (hp : EdAt H p pv) (h4 : σ[4]? = some (some (.ref bb))) (hbb : H bb = some (.tup us)) (pb : Paired (BkAt H) bs us)
    (k : ∀ v H' e, Drd H' d c ns → Keep d H H' → e ∈ es → VaAt H' (.three e p (some bs)) v → D.rt v H') :
    tRet (tTup (tCons (tOp (rIxL K) (tLst ta) (tCall spTake [] E0 (tCons (tVar 0) (tCons (tC (.int (m : Int))) tNil)))) (tCons (tVar 3) (tCons (tVar 4) tNil)))) D σ H := by
  unfold tRet tTup tCons
  refine pick_lst b l h5 hm Dd hd fun v H1 e D1 k1 he a => ?_
  have t1 := Keep.tups Dd k1
  refine ⟨_, h3, _, h4, (by show 3 ≤ sizeLine; decide), fun q hq => ?_⟩
  have s2 := same_new (o := .tup [v, pv, .ref bb]) hq
  have t2 := Tups.trans t1 (Tups.of s2)
  exact k _ _ e (D1.same s2) (k1.trans (Keep.of s2)) he ⟨q, bb, v, pv, us, rfl, upd_same, a.mono (Tups.of s2), hp.mono t2, t2 _ _ hbb, L2.Paired.mapP pb fun _ _ z => BkAt.mono t2 z⟩
theorem ret_p {ta : TA} {σ : L2.St} {H : Hp} {D : Ends} {es : List Ed} {d c bb : Addr} {us : List V} {w : Ed} {wv : V} {bs : List Bk} {ns : List Int} {m : Nat} (b : BtL σ H ta es) (l : es.length = m) (h5 : 1 ≤ m) (hm : m ≤ 100) (Dd : Drd H d c ns) (hd : σ[0]? = some (some (.ref d)))
    (h2 : σ[2]? = some (some wv)) (hw : EdAt H w wv) (h4 : σ[4]? = some (some (.ref bb))) (hbb : H bb = some (.tup us)) (pb : Paired (BkAt H) bs us)
    (k : ∀ v H' e, Drd H' d c ns → Keep d H H' → e ∈ es → VaAt H' (.three w e (some bs)) v → D.rt v H') :
    tRet (tTup (tCons (tVar 2) (tCons (tOp (rIxL K) (tLst ta) (tCall spTake [] E0 (tCons (tVar 0) (tCons (tC (.int (m : Int))) tNil)))) (tCons (tVar 4) tNil)))) D σ H := by
  refine ⟨_, h2, ?_⟩
  unfold tCons
  refine pick_lst b l h5 hm Dd hd fun v H1 e D1 k1 he a => ?_
  have t1 := Keep.tups Dd k1
  refine ⟨_, h4, (by show 3 ≤ sizeLine; decide), fun q hq => ?_⟩
  have s2 := same_new (o := .tup [wv, v, .ref bb]) hq
  have t2 := Tups.trans t1 (Tups.of s2)
  exact k _ _ e (D1.same s2) (k1.trans (Keep.of s2)) he ⟨q, bb, wv, v, us, rfl, upd_same, hw.mono t2, a.mono (Tups.of s2), t2 _ _ hbb, L2.Paired.mapP pb fun _ _ z => BkAt.mono t2 z⟩
end
section
variable {P : Program} {w : World} {K : PySem.W.Frag} {mg : Str → Option Value} {base : Heap}
theorem scBe : FnScope NBe ["draw", "function"] (defScope sLBent) := ⟨rfl, rfl, rfl, by decide +kernel, rfl, by decide +kernel, by decide +kernel⟩
theorem ok_be {f : Addr} {fd : FuncData} (F : Fun K "_law_bent" "_law_bent" sLBent f fd) (m_len : mg "len" = none)
    (GT : Got P w K mg base 1 "_law_take" ["draw", "many"] spTake) (GW : Got P w K mg base 2 "_law_wrong" ["draw", "w"] spWr) : FnOk P w K mg base CX0 3 f fd ["draw", "function"] spBe := by
  obtain ⟨fT, fdT, GT, mT, kT, bT⟩ := GT.ex
  obtain ⟨fWR, fdWR, GWR, mWR, kWR, bWR⟩ := GW.ex
  refine F.ok scBe (fun vs H Q E h => ?_) (fun cdv A outer s H vs Q E hr h => ?_)
  · obtain ⟨n, d, c, ns, v, x, rfl, _⟩ := h
    rfl
  · obtain ⟨n, d, c, ns, v, x, rfl, hn, D0, hx, hf, hk, q⟩ := h
    have nd := scBe.nd
    have hr1 : Room 1 _ := hr.mono (by omega)
    have hrW : Room 2 _ := hr
    refine ⟨_, (pss_cons (ps_asg (pv 1) (pg_tup rfl (pgs_cons (pg_name (i := 2) nd rfl (.inl rfl)) (pgs_cons (pg_name (i := 3) nd rfl (.inl rfl)) (pgs_cons (pg_name (i := 4) nd rfl (.inl rfl)) pgs_nil)))))
 (pss_cons (ps_set (i := 5) nd rfl (.inl rfl) (pe_call GT hr1 (by rfl) mT kT bT .nil pass0 (pa_cons (pv 0) (pa_cons (pe_callB (r := rLenS K) call_len_seq (by rfl) m_len PySem.boot_len (pa_cons (pv 4) pa_nil)) pa_nil))))
 (pss_cons (ps_asg (pe_ix (r := rIxT K) ix_tup (pv 4) (pv 5) (fun _ _ => rfl)) (pg_tup rfl (pgs_cons (pg_name (i := 6) nd rfl (.inl rfl)) (pgs_cons (pg_name (i := 7) nd rfl (.inl rfl)) (pgs_cons (pg_name (i := 8) nd rfl (.inl rfl)) pgs_nil)))))
 (pss_cons (ps_set (i := 9) nd rfl (.inl rfl) (pe_call GT hr1 (by rfl) mT kT bT .nil pass0 (pa_cons (pv 0) (pa_cons pe_int pa_nil))))
 (pss_cons (ps_set (i := 10) nd rfl (.inl rfl) (pe_call GWR hrW (by rfl) mWR kWR bWR .nil pass0 (pa_cons (pv 0) (pa_cons (pv 2) pa_nil))))
 (pss_cons (ps_if (pt_cmpR op_lt (pv 9) pe_int (nomark _)) (pss_one (ps_set (i := 7) nd rfl (.inl rfl) (pe_op (r := rCatA K) op_catA (pv 7) (pe_tup (pa_cons (pe_ix (r := rIxL K) ix_list (pe_lst (pa_cons (pe_tup (pa_cons pe_str (pa_cons pe_int (pa_cons (pv 10) pa_nil)))) (pa_cons (pe_tup (pa_cons pe_str (pa_cons (pv 10) pa_nil))) (pa_cons (pe_tup (pa_cons pe_str (pa_cons (pv 10) (pa_cons (pe_tup (pa_cons pe_str (pa_cons pe_int pa_nil))) pa_nil)))) (pa_cons (pe_tup (pa_cons pe_str (pa_cons pe_int (pa_cons (pe_tup (pa_cons pe_str (pa_cons pe_int pa_nil))) pa_nil)))) (pa_cons (pe_tup (pa_cons pe_str (pa_cons pe_int pa_nil))) (pa_cons pe_non (pa_cons (pe_tup (pa_cons pe_str (pa_cons pe_int pa_nil))) (pa_cons (pe_tup pa_nil) pa_nil))))))))) (pe_call GT hr1 (by rfl) mT kT bT .nil pass0 (pa_cons (pv 0) (pa_cons pe_int pa_nil))) (fun _ _ => rfl)) pa_nil))))) (pss_one (ps_if (pt_cmpR op_lt (pv 9) pe_int (nomark _)) (pss_one (ps_set (i := 8) nd rfl (.inl rfl) (pe_ix (r := rIxL K) ix_list (pe_lst (pa_cons (pe_tup (pa_cons pe_str (pa_cons (pv 10) pa_nil))) (pa_cons (pe_tup (pa_cons pe_str (pa_cons (pv 10) (pa_cons (pv 6) (pa_cons (pv 6) pa_nil))))) (pa_cons (pe_tup (pa_cons pe_str (pa_cons pe_int pa_nil))) (pa_cons (pe_tup (pa_cons pe_str (pa_cons pe_int pa_nil))) (pa_cons (pe_tup (pa_cons pe_str (pa_cons (pe_ix (r := rIxT K) ix_tup (pe_ix (r := rIxT K) ix_tup (pv 4) pe_int (fun _ _ => rfl)) pe_int (fun _ _ => rfl)) pa_nil))) (pa_cons (pe_tup (pa_cons pe_str (pa_cons (pe_tup (pa_cons pe_str (pa_cons pe_int pa_nil))) (pa_cons pe_int (pa_cons (pv 6) pa_nil))))) (pa_cons (pe_tup (pa_cons pe_str pa_nil)) (pa_cons (pe_tup (pa_cons pe_str (pa_cons pe_int pa_nil))) (pa_cons (pe_tup (pa_cons pe_str pa_nil)) (pa_cons (pe_tup pa_nil) pa_nil))))))))))) (pe_call GT hr1 (by rfl) mT kT bT .nil pass0 (pa_cons (pv 0) (pa_cons pe_int pa_nil))) (fun _ _ => rfl)))) (pss_one (ps_if (pt_cmpR op_eq (pv 9) pe_int (nomark _)) (pss_one (ps_set (i := 6) nd rfl (.inl rfl) (pe_ix (r := rIxL K) ix_list (pe_lst (pa_cons (pe_ix (r := rIxT K) ix_tup (pe_ix (r := rIxT K) ix_tup (pv 4) (pe_op op_sub (pe_callB (r := rLenS K) call_len_seq (by rfl) m_len PySem.boot_len (pa_cons (pv 4) pa_nil)) pe_int) (fun _ _ => rfl)) pe_int (fun _ _ => rfl)) (pa_cons pe_int (pa_cons pe_int (pa_cons (pe_un un_neg pe_int) (pa_cons pe_bl pa_nil)))))) (pe_call GT hr1 (by rfl) mT kT bT .nil pass0 (pa_cons (pv 0) (pa_cons pe_int pa_nil))) (fun _ _ => rfl)))) (pss_one (ps_if (pt_cmpR op_eq (pv 9) pe_int (nomark _)) (pss_one (ps_ret (pe_tup (pa_cons (pe_ix (r := rIxL K) ix_list (pe_lst (pa_cons pe_int (pa_cons pe_int (pa_cons pe_bl (pa_cons pe_str pa_nil))))) (pe_call GT hr1 (by rfl) mT kT bT .nil pass0 (pa_cons (pv 0) (pa_cons pe_int pa_nil))) (fun _ _ => rfl)) (pa_cons (pv 3) (pa_cons (pv 4) pa_nil)))))) (pss_one (ps_if (pt_cmpR op_eq (pv 9) pe_int (nomark _)) (pss_one (ps_ret (pe_tup (pa_cons (pv 2) (pa_cons (pe_ix (r := rIxL K) ix_list (pe_lst (pa_cons pe_int (pa_cons (pe_un un_neg pe_int) (pa_cons pe_non pa_nil)))) (pe_call GT hr1 (by rfl) mT kT bT .nil pass0 (pa_cons (pv 0) (pa_cons pe_int pa_nil))) (fun _ _ => rfl)) (pa_cons (pv 4) pa_nil)))))) (pss_one (ps_if (pt_cmpR op_eq (pv 9) pe_int (nomark _)) (pss_one (ps_ret (pe_ix (r := rIxL K) ix_list (pe_lst (pa_cons pe_non (pa_cons pe_int (pa_cons (pe_tup (pa_cons (pv 2) (pa_cons (pv 3) pa_nil))) (pa_cons (pe_tup (pa_cons (pv 2) (pa_cons (pv 3) (pa_cons (pe_tup pa_nil) pa_nil)))) (pa_cons (pe_tup (pa_cons (pv 2) (pa_cons (pv 3) (pa_cons pe_non pa_nil)))) (pa_cons (pe_tup (pa_cons (pv 2) (pa_cons (pv 3) (pa_cons (pe_op (r := rCatA K) op_catA (pv 4) (pe_tup (pa_cons pe_non pa_nil))) pa_nil)))) pa_nil))))))) (pe_call GT hr1 (by rfl) mT kT bT .nil pass0 (pa_cons (pv 0) (pa_cons pe_int pa_nil))) (fun _ _ => rfl)))) (pss_one (ps_ret (pe_tup (pa_cons (pv 2) (pa_cons (pv 3) (pa_cons (pe_op (r := rCatA K) op_catA (pe_slice (r := rSlA K) sl_tupA (pv 4) po_none (po_some (pv 5))) (pe_slice (r := rSlA K) sl_tupA (pv 4) (po_some (pe_op op_add (pv 5) pe_int)) po_none)) pa_nil)))))))))))))))))
 (pss_one (ps_ret (pe_tup (pa_cons (pv 2) (pa_cons (pv 3) (pa_cons (pe_op (r := rCatA K) op_catA (pe_op (r := rCatA K) op_catA (pe_slice (r := rSlA K) sl_tupA (pv 4) po_none (po_some (pv 5))) (pe_tup (pa_cons (pe_tup (pa_cons (pv 6) (pa_cons (pv 7) (pa_cons (pv 8) pa_nil)))) pa_nil))) (pe_slice (r := rSlA K) sl_tupA (pv 4) (po_some (pe_op op_add (pv 5) pe_int)) po_none)) pa_nil)))))))))))), ?_⟩
    cases x with
    | three w p bs =>
      cases bs with
      | none => cases hf
      | some bs =>
        have hf0 : (inI w 1 16 && (inI p 0 6 && (decide (1 ≤ bs.length) && bs.all blkB))) = true := hf
        simp only [Bool.and_eq_true, decide_eq_true_eq, List.all_eq_true] at hf0
        obtain ⟨h1, h2, hb1, hall⟩ := hf0
        obtain ⟨hn1, hn2⟩ : bs.length ≤ 10 + n ∧ ∀ b ∈ bs, Bk3 b ∧ bodyN b ≤ 10 + n := hk
        obtain ⟨a, bb, wv, pv, us, rfl, ha, hw, hp, hbb, pb⟩ := hx
        have hwv : wv = .int ((widI w : Nat) : Int) ∧ widI w ≤ 16 := by
          have e := in_val h1
          have hw' := hw
          rw [e] at hw' h1
          simp only [inI, Bool.and_eq_true, decide_eq_true_eq] at h1
          have hw' : wv = .int (valI w) := hw'
          unfold widI
          refine ⟨by rw [hw', Int.toNat_of_nonneg (by omega)], by omega⟩
        obtain ⟨rfl, hW⟩ := hwv
        have lb := pb.length
        refine ⟨_, rfl, a, _, rfl, .of ha, rfl, _, _, rfl, _, _, rfl, _, _, rfl, rfl, ?_⟩
        refine ⟨_, rfl, _, rfl, bb, _, rfl, .inr (.of hbb), d, c, ns, _, rfl, D0, by omega, by omega, fun z H1 hz D1 k1 => ?_⟩
        have t1 := Keep.tups D0 k1
        have hzu : z < us.length := by omega
        obtain ⟨b, hb, hat⟩ := prd_get' pb (List.getElem?_eq_getElem hzu)
        have hbm := List.mem_of_getElem? hb
        cases b with
        | non => exact absurd (hall _ hbm) (by decide)
        | row l body fin =>
        have hv : (inI l 0 999 && isT fin) = true := hall _ hbm
        rw [Bool.and_eq_true] at hv
        obtain ⟨⟨e3l, e3b, e3f, h60⟩, hbn⟩ : (Ed3 l ∧ (∀ e ∈ body, Ed3 e) ∧ Ed3 fin ∧ body.length ≤ 60) ∧ body.length ≤ 10 + n := hn2 _ hbm
        have hat1 := hat.mono t1
        obtain ⟨xa, bd, lv, fv, ub, e1, hxa, hl, hbd, pub, hfv⟩ := hat1
        refine ⟨_, rfl, _, rfl, bb, us, _, _, rfl, rfl, .of (t1 _ _ hbb), atI_nat (List.getElem?_eq_getElem hzu), ?_⟩
        rw [e1]
        refine ⟨xa, _, rfl, .of hxa, rfl, _, _, rfl, _, _, rfl, _, _, rfl, rfl, ?_⟩
        refine ⟨_, rfl, d, c, ns, 12, rfl, D1, by decide, by decide, fun k H2 hk12 D2 k2 => ?_⟩
        refine ⟨_, rfl, _, rfl, d, c, ns, widI w, rfl, D2, hW, fun ev H3 e D3 k3 he e4 => ?_⟩
        have t2 := Tups.trans (Keep.tups D1 k2) (Keep.tups D2 k3)
        have t03 := Tups.trans t1 t2
        have k03 := (k1.trans k2).trans k3
        have hw3 := hw.mono t03
        have hp3 := hp.mono t03
        have hbb3 := t03 _ _ hbb
        have pb3 := L2.Paired.mapP pb fun _ _ z => BkAt.mono t03 z
        have hl3 := hl.mono t2
        have hbd3 := t2 _ _ hbd
        have pub3 := L2.Paired.mapP pub fun _ _ z => EdAt.mono t2 z
        have hf3 := hfv.mono t2
        have lub := pub.length
        have res : ∀ (l' : Ed) (body' : List Ed) (fin' : Ed), Ed3 l' → (∀ e ∈ body', Ed3 e) → body'.length ≤ 10 + (n + 1) → Ed3 fin' → Vk (n + 1) (.three w p (some (bs.take z ++ [.row l' body' fin'] ++ bs.drop (z + 1)))) := fun l' body' fin' a1 a2 a3 a4 => by
          have hzb : z < bs.length := by omega
          refine ⟨?_, fun b hb => ?_⟩
          · simp only [List.length_append, List.length_take, List.length_drop, List.length_cons, List.length_nil]
            omega
          · rcases List.mem_append.mp hb with hb | hb
            · rcases List.mem_append.mp hb with hb | hb
              · have := hn2 b (List.mem_of_mem_take hb)
                exact ⟨this.1, by have := this.2; omega⟩
              · rw [List.mem_singleton] at hb
                subst hb
                exact ⟨⟨a1, a2, a4, by omega⟩, a3⟩
            · have := hn2 b (List.mem_of_mem_drop hb)
              exact ⟨this.1, by have := this.2; omega⟩
        have vkk : ∀ (w' p' : Ed), Vk (n + 1) (.three w' p' (some bs)) := fun w' p' => ⟨by omega, fun b hb => ⟨(hn2 b hb).1, by have := (hn2 b hb).2; omega⟩⟩
        have lab : ∀ j, j < us.length → ∃ (lj : Ed) (xj : Addr) (lvj yj zj : V), (lj.ok ∧ lj.deep ≤ 1) ∧ us[j]? = some (V.ref xj) ∧ H3 xj = some (HO.tup [lvj, yj, zj]) ∧ EdAt H3 lj lvj := fun j hj => by
          obtain ⟨b0, hb0, hat0⟩ := prd_get' pb3 (List.getElem?_eq_getElem hj)
          have m0 := List.mem_of_getElem? hb0
          cases b0 with
          | non => exact absurd (hall _ m0) (by decide)
          | row l0 body0 fin0 =>
            have hv0 : (inI l0 0 999 && isT fin0) = true := hall _ m0
            rw [Bool.and_eq_true] at hv0
            have f3 := lab_small hv0.1
            obtain ⟨xj, bdj, lvj, fvj, ubj, e1', hxj, hlj, _⟩ := hat0
            exact ⟨l0, xj, lvj, _, _, f3, by rw [List.getElem?_eq_getElem hj, e1'], hxj, hlj⟩
        have i0 : ∀ {σ : L2.St}, Bt σ H3 (tTup (tCons (tC (.str "int")) (tCons (tC (.int 0)) tNil))) (.t2 "int" (.int 0)) := fun {σ} => Bt.t2 "int" (Bt.int 0)
        refine ⟨_, rfl, _, _, rfl, rfl, _, rfl, ?_⟩
        by_cases c3 : (k : Int) < 3
        · rw [decide_eq_true c3]
          refine iteT (asg_body (es := [.t3 "set" (.int 1) e, .t2 "write" e, .t3 "store" e (.t2 "int" (.int 0)), .t3 "set" (.int 100) (.t2 "int" (.int 0)), .t2 "set" (.int 1), .non, .t2 "skip" (.int 1), .t0]) (m := 8)
            (BtL.cons (Bt.t3 "set" (Bt.int 1) (Bt.var rfl he)) (BtL.cons (Bt.t2 "write" (Bt.var rfl he)) (BtL.cons (Bt.t3 "store" (Bt.var rfl he) i0) (BtL.cons (Bt.t3 "set" (Bt.int 100) i0) (BtL.cons (Bt.t2 "set" (Bt.int 1)) (BtL.cons Bt.non (BtL.cons (Bt.t2 "skip" (Bt.int 1)) (BtL.cons Bt.t0 BtL.nil)))))))) rfl (by decide) (by decide) D3 rfl rfl hbd3 pub3 (by omega) fun pn H4 x us' D4 k4 hx4 hpn pn4 => ?_)
          have t4 := Keep.tups D3 k4
          refine fin_ret (hw3.mono t4) (hp3.mono t4) hzu (by omega) (t4 _ _ hbb3) (L2.Paired.mapP pb3 fun _ _ z => BkAt.mono t4 z) (hl3.mono t4) hpn pn4 (hf3.mono t4) fun v' H5 s5 hv' => ?_
          refine q v' H5 _ (D4.same s5) ((k03.trans k4).trans (Keep.of s5)) hv' (res _ _ _ e3l (fun y hy => ?_) (by rw [List.length_append, List.length_singleton]; omega) e3f)
          rcases List.mem_append.mp hy with hy | hy
          · exact e3b y hy
          · rw [List.mem_singleton] at hy
            rw [hy]
            exact body_ok e4 x hx4
        rw [decide_eq_false c3]
        refine iteF ⟨_, rfl, _, _, rfl, rfl, _, rfl, ?_⟩
        by_cases c6 : (k : Int) < 6
        · rw [decide_eq_true c6]
          obtain ⟨l0, x0, lv0, y0, z0, e30, hu0, hx0, hl0⟩ := lab 0 (by omega)
          have BT : ∀ σ : L2.St, σ[4]? = some (some (.ref bb)) → Bt σ H3 (tOp (rIxT K) (tOp (rIxT K) (tVar 4) (tC (.int 0))) (tC (.int 0))) l0 := fun σ h4 H Q s q => ⟨_, h4, bb, us, _, _, rfl, rfl, .of (s _ _ hbb3), atI_nat (j := 0) hu0, x0, _, _, _, rfl, rfl, .of (s _ _ hx0), atI_nat (j := 0) rfl, q _ H (Same.refl H) (hl0.mono (Tups.of s))⟩
          refine iteT (asg_pick (es := ends e l l0) (m := 10)
            (BtL.cons (Bt.t2 "return" (Bt.var rfl he)) (BtL.cons (Bt.t4 "if" (Bt.var rfl he) (Bt.var rfl hl3) (Bt.var rfl hl3)) (BtL.cons (Bt.t2 "go" (Bt.int 998)) (BtL.cons (Bt.t2 "go" (Bt.int 1000)) (BtL.cons (Bt.t2 "go" (BT _ rfl)) (BtL.cons (Bt.t4 "if" i0 (Bt.int 998) (Bt.var rfl hl3)) (BtL.cons (Bt.t1 "go") (BtL.cons (Bt.t2 "halt" (Bt.int 1)) (BtL.cons (Bt.t1 "return") (BtL.cons Bt.t0 BtL.nil)))))))))) rfl (by decide) (by decide) D3 rfl fun v4 H4 x D4 k4 hx4 hv4 => ?_)
          have t4 := Keep.tups D3 k4
          refine fin_ret (hw3.mono t4) (hp3.mono t4) hzu (by omega) (t4 _ _ hbb3) (L2.Paired.mapP pb3 fun _ _ z => BkAt.mono t4 z) (hl3.mono t4) (t4 _ _ hbd3) (L2.Paired.mapP pub3 fun _ _ z => EdAt.mono t4 z) hv4 fun v' H5 s5 hv' => ?_
          exact q v' H5 _ (D4.same s5) ((k03.trans k4).trans (Keep.of s5)) hv' (res _ _ _ e3l e3b (by omega) (end_ok e4 (lab_small hv.1) e30 x hx4))
        rw [decide_eq_false c6]
        refine iteF ⟨_, rfl, rfl, _, rfl, ?_⟩
        rw [dI]
        cases c7 : ((k : Int) == 6) with
        | true =>
          obtain ⟨l0, x0, lv0, y0, z0, e30, hu0, hx0, hl0⟩ := lab (us.length - 1) (by omega)
          have BT : ∀ σ : L2.St, σ[4]? = some (some (.ref bb)) → Bt σ H3 (tOp (rIxT K) (tOp (rIxT K) (tVar 4) (tOp (rI0 fun i j => V.int (i - j)) (tCB (rLenS K) (tCons (tVar 4) tNil)) (tC (.int 1)))) (tC (.int 0))) l0 := fun σ h4 H Q s q => ⟨_, h4, _, h4, bb, _, rfl, .inr (.of (s _ _ hbb3)), _, _, rfl, rfl, bb, us, _, _, rfl, rfl, .of (s _ _ hbb3), by rw [show ((us.length : Nat) : Int) - 1 = ((us.length - 1 : Nat) : Int) by omega]; exact atI_nat hu0, x0, _, _, _, rfl, rfl, .of (s _ _ hx0), atI_nat (j := 0) rfl, q _ H (Same.refl H) (hl0.mono (Tups.of s))⟩
          refine iteT (asg_pick (es := [l0, .int 999, .int 1000, .int (-1), .bl true]) (m := 5) (BtL.cons (BT _ rfl) (BtL.cons (Bt.int 999) (BtL.cons (Bt.int 1000) (BtL.cons (Bt.neg 1) (BtL.cons (Bt.bl true) BtL.nil))))) rfl (by decide) (by decide) D3 rfl fun v4 H4 x D4 k4 hx4 hv4 => ?_)
          have t4 := Keep.tups D3 k4
          refine fin_ret (hw3.mono t4) (hp3.mono t4) hzu (by omega) (t4 _ _ hbb3) (L2.Paired.mapP pb3 fun _ _ z => BkAt.mono t4 z) hv4 (t4 _ _ hbd3) (L2.Paired.mapP pub3 fun _ _ z => EdAt.mono t4 z) (hf3.mono t4) fun v' H5 s5 hv' => ?_
          refine q v' H5 _ (D4.same s5) ((k03.trans k4).trans (Keep.of s5)) hv' (res _ _ _ ?_ e3b (by omega) e3f)
          rcases List.mem_cons.mp hx4 with rfl | hx4
          · exact ⟨e30.1, by have := e30.2; omega⟩
          · exact flat_ok x hx4
        | false =>
        refine iteF ⟨_, rfl, rfl, _, rfl, ?_⟩
        rw [dI]
        cases c8 : ((k : Int) == 7) with
        | true =>
          exact iteT (ret_w (es := [.int 0, .int 17, .bl true, .str "8"]) (m := 4) (BtL.cons (Bt.int 0) (BtL.cons (Bt.int 17) (BtL.cons (Bt.bl true) (BtL.cons (Bt.str "8") BtL.nil)))) rfl (by decide) (by decide) D3 rfl rfl hp3 rfl hbb3 pb3 fun v' H4 x D4 k4 _ hv' => q v' H4 _ D4 (k03.trans k4) hv' (vkk _ _))
        | false =>
        refine iteF ⟨_, rfl, rfl, _, rfl, ?_⟩
        rw [dI]
        cases c9 : ((k : Int) == 8) with
        | true =>
          exact iteT (ret_p (es := [.int 7, .int (-1), .non]) (m := 3) (BtL.cons (Bt.int 7) (BtL.cons (Bt.neg 1) (BtL.cons Bt.non BtL.nil))) rfl (by decide) (by decide) D3 rfl rfl hw3 rfl hbb3 pb3 fun v' H4 x D4 k4 _ hv' => q v' H4 _ D4 (k03.trans k4) hv' (vkk _ _))
        | false =>
        refine iteF ⟨_, rfl, rfl, _, rfl, ?_⟩
        rw [dI]
        cases c10 : ((k : Int) == 9) with
        | true =>
          have w2 : (2 : Nat) ≤ sizeLine := by decide
          have w3 : (3 : Nat) ≤ sizeLine := by decide
          refine iteT ⟨_, rfl, _, rfl, w2, fun q1 hq1 => ?_⟩
          have s4 := same_new (o := .tup [.int ((widI w : Nat) : Int), pv]) hq1
          have h4 : (upd H3 q1 (.tup [.int ((widI w : Nat) : Int), pv])) q1 = some (.tup [.int ((widI w : Nat) : Int), pv]) := upd_same
          generalize upd H3 q1 (.tup [.int ((widI w : Nat) : Int), pv]) = H4 at s4 h4 ⊢
          refine ⟨_, rfl, _, rfl, Nat.zero_le _, fun q2 hq2 => ?_⟩
          have s5 := same_new (o := .tup []) hq2
          have h5 : (upd H4 q2 (.tup [])) q2 = some (.tup []) := upd_same
          generalize upd H4 q2 (.tup []) = H5 at s5 h5 ⊢
          refine ⟨w3, fun q3 hq3 => ?_⟩
          have s6 := same_new (o := .tup [.int ((widI w : Nat) : Int), pv, .ref q2]) hq3
          have h6 : (upd H5 q3 (.tup [.int ((widI w : Nat) : Int), pv, .ref q2])) q3 = some (.tup [.int ((widI w : Nat) : Int), pv, .ref q2]) := upd_same
          generalize upd H5 q3 (.tup [.int ((widI w : Nat) : Int), pv, .ref q2]) = H6 at s6 h6 ⊢
          refine ⟨_, rfl, _, rfl, w3, fun q4 hq4 => ?_⟩
          have s7 := same_new (o := .tup [.int ((widI w : Nat) : Int), pv, .non]) hq4
          have h7 : (upd H6 q4 (.tup [.int ((widI w : Nat) : Int), pv, .non])) q4 = some (.tup [.int ((widI w : Nat) : Int), pv, .non]) := upd_same
          generalize upd H6 q4 (.tup [.int ((widI w : Nat) : Int), pv, .non]) = H7 at s7 h7 ⊢
          refine ⟨_, rfl, _, rfl, _, rfl, (by show 1 ≤ sizeLine; decide), fun q5 hq5 => ?_⟩
          have s8 := same_new (o := .tup [.non]) hq5
          have h8 : (upd H7 q5 (.tup [.non])) q5 = some (.tup [.non]) := upd_same
          generalize upd H7 q5 (.tup [.non]) = H8 at s8 h8 ⊢
          have s38 := (((s4.trans s5).trans s6).trans s7).trans s8
          refine cat_tup (s38 _ _ hbb3) h8 (by show us.length + 1 ≤ 1000; omega) fun q6 H9 s9 h9 => ?_
          refine ⟨w3, fun q7 hq7 => ?_⟩
          have s10 := same_new (o := .tup [.int ((widI w : Nat) : Int), pv, .ref q6]) hq7
          have h10 : (upd H9 q7 (.tup [.int ((widI w : Nat) : Int), pv, .ref q6])) q7 = some (.tup [.int ((widI w : Nat) : Int), pv, .ref q6]) := upd_same
          generalize upd H9 q7 (.tup [.int ((widI w : Nat) : Int), pv, .ref q6]) = H10 at s10 h10 ⊢
          refine ⟨(by show 6 ≤ sizeLine; decide), fun q8 hq8 => ?_⟩
          have s11 := same_new (o := .lst [.non, .int 5, .ref q1, .ref q3, .ref q4, .ref q7]) hq8
          have h11 : (upd H10 q8 (.lst [.non, .int 5, .ref q1, .ref q3, .ref q4, .ref q7])) q8 = some (.lst [.non, .int 5, .ref q1, .ref q3, .ref q4, .ref q7]) := upd_same
          have D10 := D3.same ((s38.trans s9).trans s10)
          have nrd : q8 ≠ d := fun w => by
            obtain ⟨_, _, _, Dx⟩ := D10
            have := Dx.at_
            rw [← w, hq8] at this
            cases this
          generalize upd H10 q8 (.lst [.non, .int 5, .ref q1, .ref q3, .ref q4, .ref q7]) = H11 at s11 h11 ⊢
          have D11 := D10.same s11
          have s311 := ((s38.trans s9).trans s10).trans s11
          refine ⟨_, rfl, d, c, ns, 6, rfl, D11, by decide, by decide, fun j H12 hj D12 k12 => ?_⟩
          have t12 := Keep.tups D11 k12
          have t312 := Tups.trans (Tups.of s311) t12
          have kk := k03.trans ((Keep.of s311).trans k12)
          have hw12 := hw3.mono t312
          have hp12 := hp3.mono t312
          have fin : ∀ v, ([V.non, V.int 5, V.ref q1, V.ref q3, V.ref q4, V.ref q7] : List V)[j]? = some v → Q v H12 := fun v hv => by
            match j, hv with
            | 0, hv => cases hv; exact q _ _ .non D12 kk rfl trivial
            | 1, hv => cases hv; exact q _ _ (.int 5) D12 kk rfl trivial
            | 2, hv => cases hv; exact q _ _ (.two w p) D12 kk ⟨q1, _, _, rfl, t12 _ _ ((((((((s5.trans s6).trans s7).trans s8).trans s9).trans s10).trans s11)) _ _ h4), hw12, hp12⟩ trivial
            | 3, hv => cases hv; exact q _ _ (.three w p (some [])) D12 kk ⟨q3, q2, _, _, [], rfl, t12 _ _ ((((((s7.trans s8).trans s9).trans s10).trans s11)) _ _ h6), hw12, hp12, t12 _ _ (((((((s6.trans s7).trans s8).trans s9).trans s10).trans s11)) _ _ h5), .nil⟩ ⟨Nat.zero_le _, fun b hb => by cases hb⟩
            | 4, hv => cases hv; exact q _ _ (.three w p none) D12 kk ⟨q4, _, _, rfl, t12 _ _ (((((s8.trans s9).trans s10).trans s11)) _ _ h7), hw12, hp12⟩ trivial
            | 5, hv =>
              cases hv
              refine q _ _ (.three w p (some (bs ++ [.non]))) D12 kk ⟨q7, q6, _, _, _, rfl, t12 _ _ (s11 _ _ h10), hw12, hp12, t12 _ _ ((s10.trans s11) _ _ h9), prd_app (L2.Paired.mapP pb3 fun _ _ z => BkAt.mono t312 z) (.cons (show BkAt H12 .non .non from rfl) .nil)⟩ ⟨by rw [List.length_append, List.length_singleton]; omega, fun b hb => ?_⟩
              rcases List.mem_append.mp hb with hb | hb
              · exact ⟨(hn2 b hb).1, by have := (hn2 b hb).2; omega⟩
              · rw [List.mem_singleton] at hb
                subst hb
                exact ⟨trivial, Nat.zero_le _⟩
            | j + 6, hv => simp at hv
          have hj6 : j < ([V.non, V.int 5, V.ref q1, V.ref q3, V.ref q4, V.ref q7] : List V).length := by show j < 6; omega
          exact ⟨q8, _, _, _, rfl, rfl, .of (k12 _ _ h11 nrd), atI_nat (List.getElem?_eq_getElem hj6), fin _ (List.getElem?_eq_getElem hj6)⟩
        | false =>
        refine iteF ⟨_, rfl, _, rfl, _, rfl, _, rfl, _, rfl, sl_take hzu hbb3 fun p1 H4 s4 h4 => ⟨_, rfl, _, rfl, _, _, rfl, rfl, _, rfl, ?_⟩⟩
        dsimp only [tNoPart]
        refine sl_drop hzu (s4 _ _ hbb3) fun p2 H5 s5 h5 => ?_
        have lt := List.length_take_le z us
        have ld : (us.drop (z + 1)).length ≤ us.length := by rw [List.length_drop]; omega
        refine cat_tup (s5 _ _ h4) h5 (by omega) fun p3 H6 s6 h6 => ⟨(by show 3 ≤ sizeLine; decide), fun p4 hp4 => ?_⟩
        have s7 := same_new (o := .tup [.int ((widI w : Nat) : Int), pv, .ref p3]) hp4
        have s37 := ((s4.trans s5).trans s6).trans s7
        have t37 := Tups.of s37
        have pb7 := L2.Paired.mapP pb3 fun _ _ z => BkAt.mono t37 z
        refine q _ _ (.three w p (some (bs.take z ++ bs.drop (z + 1)))) (D3.same s37) (k03.trans (Keep.of s37)) ⟨p4, p3, _, _, _, rfl, upd_same, hw3.mono t37, hp3.mono t37, s7 _ _ h6, prd_app (prd_take pb7 z) (prd_drop pb7 (z + 1))⟩ ⟨?_, fun b hb => ?_⟩
        · rw [List.length_append, List.length_take, List.length_drop]
          omega
        · have hb' : b ∈ bs := by
            rcases List.mem_append.mp hb with hb | hb
            · exact List.mem_of_mem_take hb
            · exact List.mem_of_mem_drop hb
          exact ⟨(hn2 b hb').1, by have := (hn2 b hb').2; omega⟩
    | _ => cases hf
end
end K0

set_option Elab.async false
set_option linter.all false
set_option maxRecDepth 100000
set_option maxHeartbeats 1000000
namespace K0
open PySem L2
def exE : Ex → Ed
  | .int n => .t2 "int" (.int (n : Int))
  | .var x => .t2 "var" (.int (x : Int))
  | .load e => .t2 "load" (exE e)
  | .one op e => .t2 op (exE e)
  | .two op e f => .t3 op (exE e) (exE f)
theorem at_ex {H : Hp} : ∀ {e : Ex} {v : V}, ExAt H e v → EdAt H (exE e) v
  | .int n, v, ⟨a, e1, e2⟩ => ⟨a, _, e1, e2, rfl⟩
  | .var n, v, ⟨a, e1, e2⟩ => ⟨a, _, e1, e2, rfl⟩
  | .load e, v, ⟨a, u, e1, e2, h⟩ => ⟨a, u, e1, e2, at_ex h⟩
  | .one op e, v, ⟨a, u, e1, e2, h⟩ => ⟨a, u, e1, e2, at_ex h⟩
  | .two op e f, v, ⟨a, u, y, e1, e2, h, h2⟩ => ⟨a, u, y, e1, e2, at_ex h, at_ex h2⟩
theorem uni_le : ∀ x ∈ uni, x ≤ 99 := by decide +kernel
theorem lay_ten : ∀ s ∈ tenS, PyData.canLay0 (.str s) = true := by decide +kernel
theorem in_rng {i a b : Int} (h1 : a ≤ i) (h2 : i ≤ b) : inI (.int i) a b = true := by
  show (decide (a ≤ i) && decide (i ≤ b)) = true
  rw [decide_eq_true h1, decide_eq_true h2]
  rfl
theorem is_ex {W : Nat} : ∀ {e : Ex} {n : Nat}, EOk W e → e.deep ≤ n → isE W n (exE e) = true
  | .int k, 0, _, hd => absurd hd (by show ¬ 1 ≤ 0; decide)
  | .int k, n + 1, h, _ => by
    have h : k < 2 ^ W := h
    have : ((2 ^ W : Nat) : Int) = 2 ^ W := pow_cast W
    show inI (.int (k : Int)) 0 (2 ^ W - 1) = true
    exact in_rng (by omega) (by omega)
  | .var x, 0, _, hd => absurd hd (by show ¬ 1 ≤ 0; decide)
  | .var x, n + 1, h, _ => by
    have := uni_le x h
    show inI (.int (x : Int)) 0 99 = true
    exact in_rng (by omega) (by omega)
  | .load e, 0, _, hd => absurd hd (by show ¬ e.deep + 1 ≤ 0; omega)
  | .load e, n + 1, h, hd => by
    have hd : e.deep + 1 ≤ n + 1 := hd
    show (true && isE W n (exE e)) = true
    rw [is_ex (e := e) h (by omega)]
    rfl
  | .one op e, 0, _, hd => absurd hd (by show ¬ e.deep + 1 ≤ 0; omega)
  | .one op e, n + 1, h, hd => by
    have hd : e.deep + 1 ≤ n + 1 := hd
    obtain ⟨h1, h2⟩ : (op = "not" ∨ op = "neg") ∧ EOk W e := h
    have ih := is_ex (n := n) h2 (by omega)
    rcases h1 with rfl | rfl
    · show (true && isE W n (exE e)) = true
      rw [ih]; rfl
    · show (true && isE W n (exE e)) = true
      rw [ih]; rfl
  | .two op e f, 0, _, hd => absurd hd (by show ¬ max e.deep f.deep + 1 ≤ 0; omega)
  | .two op e f, n + 1, h, hd => by
    have hd : max e.deep f.deep + 1 ≤ n + 1 := hd
    obtain ⟨h1, h2, h3⟩ : op ∈ tenS ∧ EOk W e ∧ EOk W f := h
    show (decide (op ∈ tenS) && (isE W n (exE e) && isE W n (exE f))) = true
    rw [decide_eq_true h1, is_ex (n := n) h2 (by omega), is_ex (n := n) h3 (by omega)]
    rfl
theorem ok_ex {W : Nat} : ∀ {e : Ex}, EOk W e → (exE e).ok ∧ (exE e).deep ≤ e.deep + 1
  | .int k, _ => ⟨⟨by decide +kernel, trivial⟩, by show 2 ≤ 1 + 1; decide⟩
  | .var x, _ => ⟨⟨by decide +kernel, trivial⟩, by show 2 ≤ 1 + 1; decide⟩
  | .load e, h => by
    obtain ⟨a, b⟩ := ok_ex (e := e) h
    exact ⟨⟨by decide +kernel, a⟩, by show (exE e).deep + 1 ≤ e.deep + 1 + 1; omega⟩
  | .one op e, h => by
    obtain ⟨h1, h2⟩ : (op = "not" ∨ op = "neg") ∧ EOk W e := h
    obtain ⟨a, b⟩ := ok_ex h2
    refine ⟨⟨by rcases h1 with rfl | rfl <;> decide +kernel, a⟩, by show (exE e).deep + 1 ≤ e.deep + 1 + 1; omega⟩
  | .two op e f, h => by
    obtain ⟨h1, h2, h3⟩ : op ∈ tenS ∧ EOk W e ∧ EOk W f := h
    obtain ⟨a, b⟩ := ok_ex h2
    obtain ⟨a2, b2⟩ := ok_ex h3
    exact ⟨⟨lay_ten op h1, a, a2⟩, by show max (exE e).deep (exE f).deep + 1 ≤ max e.deep f.deep + 1 + 1; omega⟩
theorem e3_ex {W : Nat} {e : Ex} (h : E3 W e) : isE W 20 (exE e) = true ∧ (exE e).ok ∧ (exE e).deep ≤ 4 := by
  obtain ⟨a, b⟩ := ok_ex h.1
  exact ⟨is_ex h.1 (by have := h.2; omega), a, by have := h.2; omega⟩
def smE : Sm → Ed
  | .set x e => .t3 "set" (.int (x : Int)) (exE e)
  | .write e => .t2 "write" (exE e)
  | .store a e => .t3 "store" (exE a) (exE e)
theorem at_sm {H : Hp} {s : Sm} {v : V} (h : SmAt H s v) : EdAt H (smE s) v := by
  cases s with
  | set x e => obtain ⟨a, u, e1, e2, h⟩ := h; exact ⟨a, _, u, e1, e2, rfl, at_ex h⟩
  | write e => obtain ⟨a, u, e1, e2, h⟩ := h; exact ⟨a, u, e1, e2, at_ex h⟩
  | store z e => obtain ⟨a, u, y, e1, e2, h, h2⟩ := h; exact ⟨a, u, y, e1, e2, at_ex h, at_ex h2⟩
theorem sm_ok {W : Nat} {s : Sm} (h : SmOk W s) : stB W (smE s) = true ∧ Ed3 (smE s) := by
  cases s with
  | set x e =>
    obtain ⟨h1, h2⟩ : x ∈ uni ∧ E3 W e := h
    obtain ⟨a, b, c⟩ := e3_ex h2
    have := uni_le x h1
    refine ⟨?_, ⟨by decide +kernel, trivial, b⟩, by show max 1 (exE e).deep + 1 ≤ 25; omega⟩
    show (inI (.int (x : Int)) 0 99 && isE W 20 (exE e)) = true
    rw [a, in_rng (by omega) (by omega)]
    rfl
  | write e =>
    obtain ⟨a, b, c⟩ := e3_ex (show E3 W e from h)
    refine ⟨?_, ⟨by decide +kernel, b⟩, by show (exE e).deep + 1 ≤ 25; omega⟩
    show (true && isE W 20 (exE e)) = true
    rw [a]
    rfl
  | store z e =>
    obtain ⟨h1, h2⟩ : E3 W z ∧ E3 W e := h
    obtain ⟨a, b, c⟩ := e3_ex h1
    obtain ⟨a2, b2, c2⟩ := e3_ex h2
    refine ⟨?_, ⟨by decide +kernel, b, b2⟩, by show max (exE z).deep (exE e).deep + 1 ≤ 25; omega⟩
    show (true && (isE W 20 (exE z) && isE W 20 (exE e))) = true
    rw [a, a2]
    rfl
def enE : En → Ed
  | .go l => .t2 "go" (.int (l : Int))
  | .iff e l m => .t4 "if" (exE e) (.int (l : Int)) (.int (m : Int))
  | .ret e => .t2 "return" (exE e)
theorem at_en {H : Hp} {s : En} {v : V} (h : EnAt H s v) : EdAt H (enE s) v := by
  cases s with
  | go l => obtain ⟨a, e1, e2⟩ := h; exact ⟨a, _, e1, e2, rfl⟩
  | iff e l m => obtain ⟨a, u, e1, e2, h⟩ := h; exact ⟨a, u, _, _, e1, e2, at_ex h, rfl, rfl⟩
  | ret e => obtain ⟨a, u, e1, e2, h⟩ := h; exact ⟨a, u, e1, e2, at_ex h⟩
theorem en_ok {W : Nat} {ls : List Nat} (hl : ∀ l ∈ ls, l < 1000) {s : En} (h : EnOk W ls s) : endB W (enE s) = true ∧ Ed3 (enE s) ∧ isT (enE s) = true ∧ ∀ t ∈ sucs (enE s), ∃ l ∈ ls, t = (l : Int) := by
  cases s with
  | go l =>
    have h : l ∈ ls := h
    have := hl l h
    refine ⟨(show inI (.int (l : Int)) 0 999 = true from in_rng (by omega) (by omega)), ⟨⟨by decide +kernel, trivial⟩, by show 2 ≤ 25; decide⟩, rfl, fun t ht => ?_⟩
    have ht : t ∈ [(l : Int)] := ht
    rw [List.mem_singleton] at ht
    exact ⟨l, h, ht⟩
  | iff e l m =>
    obtain ⟨h1, h2, h3⟩ : E3 W e ∧ l ∈ ls ∧ m ∈ ls := h
    obtain ⟨a, b, c⟩ := e3_ex h1
    have := hl l h2
    have := hl m h3
    refine ⟨?_, ⟨⟨by decide +kernel, b, trivial, trivial⟩, by show max (exE e).deep (max 1 1) + 1 ≤ 25; omega⟩, rfl, fun t ht => ?_⟩
    · show (true && (isE W 20 (exE e) && (inI (.int (l : Int)) 0 999 && inI (.int (m : Int)) 0 999))) = true
      rw [a, in_rng (by omega) (by omega), in_rng (by omega) (by omega)]
      rfl
    · have ht : t ∈ (if (l : Int) = (m : Int) then [(l : Int)] else [(l : Int), (m : Int)]) := ht
      split at ht
      · rw [List.mem_singleton] at ht
        exact ⟨l, h2, ht⟩
      · rcases List.mem_cons.mp ht with ht | ht
        · exact ⟨l, h2, ht⟩
        · rw [List.mem_singleton] at ht
          exact ⟨m, h3, ht⟩
  | ret e =>
    obtain ⟨a, b, c⟩ := e3_ex (show E3 W e from h)
    refine ⟨?_, ⟨⟨by decide +kernel, b⟩, by show (exE e).deep + 1 ≤ 25; omega⟩, rfl, fun t ht => by cases ht⟩
    show (true && isE W 20 (exE e)) = true
    rw [a]
    rfl
def blB (b : Bl) : Bk := .row (.int (b.label : Int)) (b.body.map smE) (enE b.fin)
theorem at_sms {H : Hp} : ∀ {bs : List Sm} {vs : List V}, Paired (SmAt H) bs vs → Paired (EdAt H) (bs.map smE) vs
  | _, _, .nil => .nil
  | _, _, .cons a t => .cons (at_sm a) (at_sms t)
theorem cnt1 : ∀ {l : List Int} (x : Int), l.Nodup → l.count x ≤ 1
  | [], x, _ => Nat.zero_le _
  | y :: l, x, h => by
    rw [List.nodup_cons] at h
    rw [List.count_cons]
    have ih := cnt1 x h.2
    by_cases e : y = x
    · subst e
      rw [List.count_eq_zero.mpr h.1]
      split <;> omega
    · have : (y == x) = false := by simp [e]
      rw [this]
      simpa using ih
theorem at_bl {H : Hp} {b : Bl} {v : V} (h : BlAt H b v) : BkAt H (blB b) v := by
  obtain ⟨a, s, u, vs, e1, e2, e3, p, k⟩ := h
  exact ⟨a, s, _, u, vs, e1, e2, rfl, e3, at_sms p, at_en k⟩
theorem at_bls {H : Hp} : ∀ {bs : List Bl} {vs : List V}, Paired (BlAt H) bs vs → Paired (BkAt H) (bs.map blB) vs
  | _, _, .nil => .nil
  | _, _, .cons a t => .cons (at_bl a) (at_bls t)
def fnV (F : Fn) : Va := .three (.int (F.width : Int)) (.int (F.params : Int)) (some (F.blocks.map blB))
theorem at_fn {H : Hp} {F : Fn} {v : V} (h : FnAt H F v) : VaAt H (fnV F) v := by
  obtain ⟨a, b, rows, e1, e2, e3, p⟩ := h
  exact ⟨a, b, _, _, rows, e1, e2, rfl, rfl, e3, at_bls p⟩
theorem fn_labs (F : Fn) : (F.blocks.map blB).map labI = (F.blocks.map (·.label)).map fun l : Nat => (l : Int) := by
  rw [List.map_map, List.map_map]
  rfl
theorem fn_ok {nb mo : Nat} {F : Fn} (h : FnOk' nb mo F) (h1 : nb ≤ 5) (h2 : mo ≤ 4) : formB (fnV F) = true ∧ Vk 0 (fnV F) ∧ rawF (fnV F) = [] := by
  have hlt : ∀ l ∈ (F.blocks.map (·.label)).tail, l < 1000 := fun l hl => by
    obtain ⟨b, hb, rfl⟩ := List.mem_map.mp (List.mem_of_mem_tail hl)
    exact h.lt b hb
  have hb : ∀ b ∈ F.blocks, blkB (blB b) = true := fun b hb => by
    have := h.lt b hb
    show (inI (.int (b.label : Int)) 0 999 && isT (enE b.fin)) = true
    rw [(en_ok hlt (h.ok b hb).2.2).2.2.1, in_rng (by omega) (by omega)]
    rfl
  have hf : formB (fnV F) = true := by
    show (inI (.int (F.width : Int)) 1 16 && (inI (.int (F.params : Int)) 0 6 && (decide (1 ≤ (F.blocks.map blB).length) && (F.blocks.map blB).all blkB))) = true
    have := h.w1
    have := h.w16
    have := h.pr
    rw [in_rng (by omega) (by omega), in_rng (by omega) (by omega), decide_eq_true (by rw [List.length_map]; exact h.b1), List.all_eq_true.mpr (fun x hx => by
      obtain ⟨b, hb', rfl⟩ := List.mem_map.mp hx
      exact hb b hb')]
    rfl
  refine ⟨hf, ⟨by have := h.bn; rw [List.length_map]; omega, fun x hx => ?_⟩, ?_⟩
  · obtain ⟨b, hb', rfl⟩ := List.mem_map.mp hx
    obtain ⟨o1, o2, o3⟩ := h.ok b hb'
    refine ⟨⟨⟨trivial, by show 1 ≤ 25; decide⟩, fun e he => ?_, (en_ok hlt o3).2.1, by rw [List.length_map]; omega⟩, by show (b.body.map smE).length ≤ 10; rw [List.length_map]; omega⟩
    obtain ⟨s, hs, rfl⟩ := List.mem_map.mp he
    exact (sm_ok (o1 s hs)).2
  · show (if formB _ then bksF (widI (.int (F.width : Int))) ((F.blocks.map blB).map labI) (F.blocks.map blB) else _) = []
    rw [show formB (.three (.int (F.width : Int)) (.int (F.params : Int)) (some (F.blocks.map blB))) = true from hf, if_pos rfl, fn_labs]
    unfold bksF
    rw [List.flatMap_eq_nil_iff]
    intro x hx
    obtain ⟨b, hb', rfl⟩ := List.mem_map.mp hx
    obtain ⟨o1, o2, o3⟩ := h.ok b hb'
    obtain ⟨g1, g2, g3, g4⟩ := en_ok hlt o3
    have hnd : ((F.blocks.map (·.label)).map fun l : Nat => (l : Int)).Nodup := by
      have := h.nd
      unfold List.Nodup at this ⊢
      rw [List.pairwise_map]
      exact this.imp fun {a b} n (e : ((a : Nat) : Int) = ((b : Nat) : Int)) => n (by omega)
    have c1 := cnt1 (valI (.int (b.label : Int))) hnd
    have c2 : (b.body.map smE).all (stB (widI (.int (F.width : Int)))) = true := List.all_eq_true.mpr fun e he => by
      obtain ⟨s, hs, rfl⟩ := List.mem_map.mp he
      exact (sm_ok (o1 s hs)).1
    have c3 : ((sucs (enE b.fin)).all fun t => decide (t ∈ (F.blocks.map (·.label)).map fun l : Nat => (l : Int))) = true := List.all_eq_true.mpr fun t ht => by
      obtain ⟨l, hl, rfl⟩ := g4 t ht
      exact decide_eq_true (List.mem_map.mpr ⟨l, List.mem_of_mem_tail hl, rfl⟩)
    have c4 : ¬ (((F.blocks.map (·.label)).map fun l : Nat => (l : Int)).headD 0 ∈ sucs (enE b.fin)) := fun ht => by
      obtain ⟨l, hl, e⟩ := g4 _ ht
      have hn := h.nd
      cases hL : F.blocks.map (·.label) with
      | nil => rw [hL] at hl; cases hl
      | cons x r =>
        rw [hL] at hl hn e
        rw [List.nodup_cons] at hn
        have e : (x : Int) = (l : Int) := e
        have : x = l := by omega
        exact hn.1 (by rw [this]; exact hl)
    show (codes _ _ (.row (.int (b.label : Int)) (b.body.map smE) (enE b.fin))).map _ = []
    rw [codes_row, if_neg (by omega), c2, show endB (widI (.int (F.width : Int))) (enE b.fin) = true from g1, c3, if_neg c4]
    rfl
end K0

set_option Elab.async false
set_option linter.all false
set_option maxRecDepth 100000
set_option maxHeartbeats 1000000
namespace K0
open PySem L2
abbrev NLaw : List Str := ["script", "draw", "function", "value", "j"]
theorem eqv_ps : ∀ L M : List (Int × Str), PyData.eqv (.list (L.map pD)) (.list (M.map pD)) = decide (L = M)
  | [], [] => rfl
  | [], y :: M => rfl
  | x :: L, [] => rfl
  | x :: L, y :: M => by
    have ih := eqv_ps L M
    have h := eqv_pD x y
    simp only [PyData.eqv] at ih
    simp only [List.map_cons, PyData.eqv, PyData.eqvAll]
    rw [ih, h]
    by_cases h1 : x = y <;> by_cases h2 : L = M <;> simp [h1, h2]
def okP (p : Int × Str) : Prop := p = (-1, ("form" : Str)) ∨ p.2 ∈ ([("twice" : Str), "statement", "end", "target", "entry"] : List Str)
theorem raw_okP {x : Va} : ∀ p ∈ rawF x, okP p := by
  have one : ∀ p ∈ [((-1 : Int), ("form" : Str))], okP p := fun p hp => .inl (List.mem_singleton.mp hp)
  cases x with
  | three w p bs =>
    cases bs with
    | none => exact one
    | some bs =>
      intro z hz
      have hz : z ∈ (if formB (.three w p (some bs)) then bksF (widI w) (bs.map labI) bs else [((-1 : Int), ("form" : Str))]) := hz
      split at hz
      · obtain ⟨b, _, hc⟩ := List.mem_flatMap.mp hz
        obtain ⟨c, hc2, rfl⟩ := List.mem_map.mp hc
        exact .inr (codes_sub _ _ b c hc2)
      · exact one z hz
  | _ => exact one
theorem lay_form : PyData.canLay0 (.str ("form" : Str)) = true := by decide +kernel
theorem can_pD {p : Int × Str} (h : okP p) : (pD p).canLay0 = true ∧ (pD p).depth ≤ 1 := by
  obtain ⟨l, c⟩ := p
  have hc : PyData.canLay0 (.str c) = true := by
    rcases h with h | h
    · cases h; exact lay_form
    · exact lay_codes c h
  refine ⟨by simp [pD, PyData.canLay0, PyData.canLayAll0] at hc ⊢; exact hc, by simp [pD, PyData.depth, PyData.depthAll]⟩
theorem sh_ps {L : List (Int × Str)} (h : ∀ p ∈ L, okP p) : SeqAt.shaped (.list (L.map pD)) = true := by
  have c : PyData.canLayAll0 (L.map pD) = true ∧ PyData.depthAll (L.map pD) ≤ 1 := by
    induction L with
    | nil => exact ⟨rfl, by simp [PyData.depthAll]⟩
    | cons x r ih =>
      obtain ⟨a, b⟩ := ih fun e he => h e (List.mem_cons_of_mem _ he)
      obtain ⟨h1, h2⟩ := can_pD (h x List.mem_cons_self)
      refine ⟨by simp [PyData.canLayAll0, h1, a], ?_⟩
      simp [PyData.depthAll]
      omega
  unfold SeqAt.shaped
  have h1 : PyData.canLay0 (.list (L.map pD)) = true := by simp [PyData.canLay0, c.1]
  have h2 : PyData.depth (.list (L.map pD)) ≤ 64 := by
    simp [PyData.depth]
    omega
  rw [h1, decide_eq_true h2]
  rfl
theorem due_ok {x : Va} {L : List (Int × Str)} (h : IsDue x L) : SeqAt.shaped (.list (L.map pD)) = true := sh_ps fun p hp => raw_okP p ((h.2 p).mp hp)
theorem dp_due {K : PySem.W.Frag} {H : Hp} {r : Addr} {L : List (Int × Str)} (h : LAt H r L) : Dp K H (.ref r) (.list (L.map pD)) := by
  obtain ⟨vs, e1, e2⟩ := h
  exact .lst (.inl (.of e1)) (dp_pairs e2)
theorem due_one {x : Va} {L M : List (Int × Str)} (h : IsDue x L) (h' : IsDue x M) : L = M := uniq h.1 h'.1 fun p => (h.2 p).trans (h'.2 p).symm
theorem LAt.kg {Ts : List Addr} {H H' : Hp} {r : Addr} {L : List (Int × Str)} (g : Gt Ts H) (k : KG Ts H H') (h : LAt H r L) : LAt H' r L := by
  obtain ⟨vs, e1, e2⟩ := h
  exact ⟨vs, KG.lst g k e1, L2.Paired.mapP e2 fun _ _ z => z.mono (KG.tups g k)⟩
def spLaw (K : PySem.W.Frag) (Ts : List Addr) : Sp := fun vs H Q _ => ∃ (a : Addr) (ns : List Int), vs = [.ref a] ∧ SqL K H a (ns.map V.int) ∧ ns.length ≤ 63 ∧ Gt Ts H ∧ ∀ H', Q (.bl true) H'
section
variable {P : Program} {w : World} {K : PySem.W.Frag} {mg : Str → Option Value} {base : Heap}
theorem scLaw : FnScope NLaw ["script"] (defScope sLaw) := ⟨rfl, rfl, rfl, by decide +kernel, rfl, by decide +kernel, by decide +kernel⟩
/-- the two answers, compared -/
theorem same_due {Ts : List Addr} {σ : L2.St} {H : Hp} {D : Ends} {v : V} {x : Va} {X : TS} {i : Nat} (h3 : σ[i]? = some (some v)) (hx : VaAt H x v) (hk : Vk 10 x) (g : Gt Ts H) (q : ∀ H', KG Ts H H' → Gt Ts H' → D.nx σ H') :
    tIfS (tTest (tOp (rNeD K) (tCall (spFf Ts) [] E0 (tCons (tVar i) tNil)) (tCall spLD [] E0 (tCons (tVar i) tNil)))) X tNext D σ H := by
  refine ⟨_, h3, v, x, rfl, hx, hk.small (by decide), g, fun r H1 L k1 g1 fr hL hD => ⟨_, h3, v, x, rfl, hx.mono (KG.tups g k1), hk.va3 (by decide), fun r2 H2 M s2 fr2 hM hD2 => ?_⟩⟩
  have k2 : KG Ts H1 H2 := KG.of s2
  refine ⟨_, _, dp_due (LAt.kg g1 k2 hL), dp_due hM, due_ok hD, due_ok hD2, _, rfl, ?_⟩
  rw [eqv_ps, decide_eq_true (due_one hD hD2)]
  exact iteF (q H2 (k1.trans k2) (g1.same s2))
theorem ok_law {f : Addr} {fd : FuncData} {Ts : List Addr} (F : Fun K "law" "law" sLaw f fd) (m_range : mg "range" = none) (m_len : mg "len" = none) (m_isinstance : mg "isinstance" = none) (m_tuple : mg "tuple" = none)
    (GD0 : Got P w K mg base 1 "_law_draw" ["script"] (spDraw K)) (GF0 : Got P w K mg base 8 "_law_function" ["draw", "blocks", "most"] spF) (GX : Got P w K mg base 48 "function_faults" ["value"] (spFf Ts)) (GL0 : Got P w K mg base 25 "_law_due" ["value"] spLD)
    (GB1 : Got P w K mg base 3 "_law_bent" ["draw", "function"] spBe) (GT0 : Got P w K mg base 1 "_law_take" ["draw", "many"] spTake) : FnOk P w K mg base CX0 49 f fd ["script"] (spLaw K Ts) := by
  obtain ⟨fD, fdD, GD, mD, kD, bD⟩ := GD0.ex
  obtain ⟨fFN, fdFN, GFN, mFN, kFN, bFN⟩ := GF0.ex
  obtain ⟨fFF, fdFF, GFF, mFF, kFF, bFF⟩ := GX.ex
  obtain ⟨fLD, fdLD, GLD, mLD, kLD, bLD⟩ := GL0.ex
  obtain ⟨fT, fdT, GT, mT, kT, bT⟩ := GT0.ex
  obtain ⟨fBE, fdBE, GBE, mBE, kBE, bBE⟩ := GB1.ex
  refine F.ok scLaw (fun vs H Q E h => ?_) (fun cdv A outer s H vs Q E hr h => ?_)
  · obtain ⟨a, ns, rfl, _⟩ := h
    rfl
  · obtain ⟨a, ns, rfl, hS, hlen, hg, q⟩ := h
    have nd := scLaw.nd
    have hr1 : Room 1 _ := hr.mono (by decide)
    have hr8 : Room 8 _ := hr.mono (by decide)
    have hr48 : Room 48 _ := hr
    have hr25 : Room 25 _ := hr.mono (by decide)
    have hr3 : Room 3 _ := hr.mono (by decide)
    refine ⟨_, (pss_cons (ps_set (i := 1) nd rfl (.inl rfl) (pe_call GD hr1 (by rfl) mD kD bD .nil pass0 (pa_cons (pv 0) pa_nil)))
 (pss_cons (ps_set (i := 2) nd rfl (.inl rfl) (pe_call GFN hr8 (by rfl) mFN kFN bFN .nil pass0 (pa_cons (pv 1) (pa_cons pe_int (pa_cons pe_int pa_nil)))))
 (pss_cons (ps_if (PW.pt (pw_or (pt_cmpR (r := rNeD K) (op_neD hr.units) (pe_call GFF hr48 (by rfl) mFF kFF bFF .nil pass0 (pa_cons (pv 2) pa_nil)) (pe_lst pa_nil) (nomark _)) (pw_or1 (pt_cmpR (r := rNeD K) (op_neD hr.units) (pe_call GLD hr25 (by rfl) mLD kLD bLD .nil pass0 (pa_cons (pv 2) pa_nil)) (pe_lst pa_nil) (nomark _))))) (pss_one (ps_ret pe_bl)) pss_nil)
 (pss_cons (ps_set (i := 3) nd rfl (.inl rfl) (pv 2))
 (pss_cons (ps_for PassesOwn.never rfl (pi_range1 (by rfl) m_range (pa_cons (pe_op op_add pe_int (pe_call GT hr1 (by rfl) mT kT bT .nil pass0 (pa_cons (pv 1) (pa_cons pe_int pa_nil)))) pa_nil)) (pg_name (i := 4) nd rfl (.inl rfl)) (pss_cons (ps_if (PW.pt (pw_and (pt_val (pe_callB (r := rIsi K) call_isi (by rfl) m_isinstance (by decide +kernel) (pa_cons (pv 3) (pa_cons (pe_bltn (v := .ty "tuple") (by rfl) m_tuple (by decide +kernel) rfl) pa_nil)))) (pw_and (pt_cmpR op_eq (pe_callB (r := rLenS K) call_len_seq (by rfl) m_len PySem.boot_len (pa_cons (pv 3) pa_nil)) pe_int (nomark _)) (pw_and (pt_val (pe_callB (r := rIsi K) call_isi (by rfl) m_isinstance (by decide +kernel) (pa_cons (pe_ix (r := rIxT K) ix_tup (pv 3) pe_int (fun _ _ => rfl)) (pa_cons (pe_bltn (v := .ty "tuple") (by rfl) m_tuple (by decide +kernel) rfl) pa_nil)))) (pw_and (pt_cmpR (r := rNeD K) (op_neD hr.units) (pe_ix (r := rIxT K) ix_tup (pv 3) pe_int (fun _ _ => rfl)) (pe_tup pa_nil) (nomark _)) (pw_and1 (pt_cmpR (r := rNeD K) (op_neD hr.units) (pe_call GLD hr25 (by rfl) mLD kLD bLD .nil pass0 (pa_cons (pv 3) pa_nil)) (pe_lst (pa_cons (pe_tup (pa_cons (pe_un un_neg pe_int) (pa_cons pe_str pa_nil))) pa_nil)) (nomark _)))))))) (pss_one (ps_set (i := 3) nd rfl (.inl rfl) (pe_call GBE hr3 (by rfl) mBE kBE bBE .nil pass0 (pa_cons (pv 1) (pa_cons (pv 3) pa_nil))))) pss_nil)
 (pss_one (ps_if (pt_cmpR (r := rNeD K) (op_neD hr.units) (pe_call GFF hr48 (by rfl) mFF kFF bFF .nil pass0 (pa_cons (pv 3) pa_nil)) (pe_call GLD hr25 (by rfl) mLD kLD bLD .nil pass0 (pa_cons (pv 3) pa_nil)) (nomark _)) (pss_one (ps_ret pe_bl)) pss_nil))))
 (pss_one (ps_ret pe_bl))))))), ?_⟩
    refine ⟨_, rfl, a, ns, rfl, hS, hlen, fun d c ms H1 D1 s1 nd1 => ?_⟩
    refine ⟨_, rfl, d, c, ms, 5, 4, rfl, D1, by decide, by decide, by decide, fun F fv H2 ok hF D2 kp2 => ?_⟩
    have g2 := (hg.same s1).keep D1 kp2
    obtain ⟨hfm, hvk, hraw⟩ := fn_ok ok (by decide) (by decide)
    have hx := at_fn hF
    have vk10 : ∀ {x : Va} {k : Nat}, k ≤ 10 → Vk k x → Vk 10 x := fun {x k} hk h => by
      cases x with
      | three w p bs =>
        cases bs with
        | none => trivial
        | some bs =>
          obtain ⟨h1, h2⟩ : bs.length ≤ 10 + k ∧ ∀ b ∈ bs, Bk3 b ∧ bodyN b ≤ 10 + k := h
          exact ⟨by omega, fun b hb => ⟨(h2 b hb).1, by have := (h2 b hb).2; omega⟩⟩
      | _ => trivial
    have nil_of : ∀ {L}, IsDue (fnV F) L → L = [] := fun {L} h => List.eq_nil_iff_forall_not_mem.mpr fun p hp => by
      have := (h.2 p).mp hp
      rw [hraw] at this
      cases this
    refine ⟨_, rfl, fv, fnV F, rfl, hx, hvk.small (by decide), g2, fun r H3 L k3 g3 _ hL hD => ?_⟩
    refine ⟨Nat.zero_le _, fun p4 hp4 => ?_⟩
    have s4 := same_new (o := .lst []) hp4
    have h4 : (upd H3 p4 (.lst [])) p4 = some (.lst []) := upd_same
    generalize upd H3 p4 (.lst []) = H4 at s4 h4 ⊢
    have k24 := k3.trans (KG.of s4)
    have g4 := g3.same s4
    have e1 := nil_of hD
    refine ⟨.list (L.map pD), .list [], dp_due (LAt.kg g3 (KG.of s4) hL), .lst (.inl (.of h4)) .nil, due_ok hD, rfl, _, rfl, ?_⟩
    rw [e1]
    refine iteF ⟨_, rfl, fv, fnV F, rfl, hx.mono (KG.tups g2 k24), hvk.va3 (by decide), fun r2 H5 M s5 _ hM hD2 => ?_⟩
    refine ⟨Nat.zero_le _, fun p6 hp6 => ?_⟩
    have s6 := same_new (o := .lst []) hp6
    have h6 : (upd H5 p6 (.lst [])) p6 = some (.lst []) := upd_same
    generalize upd H5 p6 (.lst []) = H6 at s6 h6 ⊢
    have k26 := k24.trans (KG.of (s5.trans s6))
    have g6 := g4.same (s5.trans s6)
    have e2 := nil_of hD2
    refine ⟨.list (M.map pD), .list [], dp_due (LAt.kg (g4.same s5) (KG.of s6) hM), .lst (.inl (.of h6)) .nil, due_ok hD2, rfl, _, rfl, ?_⟩
    rw [e2]
    have kt1 : kitB "NoneType" "tuple" = some false := by decide +kernel
    have kt2 : kitB "int" "tuple" = some false := by decide +kernel
    have kt3 : kitB "tuple" "tuple" = some true := by decide +kernel
    have D6 := KG.drd g2 k26 D2
    refine iteF ⟨_, rfl, _, rfl, d, c, ms, 2, rfl, D6, by decide, by decide, fun z H7 hz D7 k7 => ⟨_, _, rfl, rfl, _, rfl, by omega, by omega, for_range (lo := 0) (n := ((1 : Int) + (z : Int)).toNat) (fun i σ H' => ∃ v x y4, σ = [some (.ref a), some (.ref d), some fv, some v, y4] ∧ VaAt H' x v ∧ Vk i x ∧ Drd H' d c ms ∧ Gt Ts H')
      ⟨fv, fnV F, none, rfl, (hx.mono (KG.tups g2 k26)).mono (Keep.tups D6 k7), hvk, D7, g6.keep D6 k7⟩ ?_ ?_⟩⟩
    · rintro i σ H8 hi ⟨v, x, y4, rfl, hx8, hk8, D8, g8⟩
      have hi5 : i ≤ 5 := by omega
      have vkS : Vk (i + 1) x := by
        cases x with
        | three w p bs =>
          cases bs with
          | none => trivial
          | some bs =>
            obtain ⟨h1, h2⟩ : bs.length ≤ 10 + i ∧ ∀ b ∈ bs, Bk3 b ∧ bodyN b ≤ 10 + i := hk8
            exact ⟨by omega, fun b hb => ⟨(h2 b hb).1, by have := (h2 b hb).2; omega⟩⟩
        | _ => trivial
      cases x with
      | non =>
        obtain rfl : v = .non := hx8
        refine ⟨_, rfl, _, _, _, _, _, rfl, .ty "tuple", .base .non, kit_ty kt1, _, rfl, iteF (iteF ?_)⟩
        refine same_due (i := 3) (x := .non) rfl rfl (vk10 (by omega) vkS) g8 fun H9 k9 g9 => ⟨_, .non, _, rfl, rfl, vkS, KG.drd g8 k9 D8, g9⟩
      | int j =>
        obtain rfl : v = .int j := hx8
        refine ⟨_, rfl, _, _, _, _, _, rfl, .ty "tuple", .base (.int j), kit_ty kt2, _, rfl, iteF (iteF ?_)⟩
        refine same_due (i := 3) (x := .int j) rfl rfl (vk10 (by omega) vkS) g8 fun H9 k9 g9 => ⟨_, .int j, _, rfl, rfl, vkS, KG.drd g8 k9 D8, g9⟩
      | two w p =>
        have hx0 := hx8
        obtain ⟨a8, wv, pv, rfl, ha8, hw8, hp8⟩ := hx0
        refine ⟨_, rfl, _, _, _, _, _, rfl, .ty "tuple", .base (.tup ha8), kit_ty kt3, _, rfl, iteT ⟨_, rfl, a8, _, rfl, .inr (.of ha8), rfl, _, rfl, iteF (iteF ?_)⟩⟩
        refine same_due (i := 3) rfl hx8 (vk10 (by omega) vkS) g8 fun H9 k9 g9 => ⟨_, _, _, rfl, hx8.mono (KG.tups g8 k9), vkS, KG.drd g8 k9 D8, g9⟩
      | three w p bs =>
        cases bs with
        | none =>
          have hx0 := hx8
          obtain ⟨a8, wv, pv, rfl, ha8, hw8, hp8⟩ := hx0
          refine ⟨_, rfl, _, _, _, _, _, rfl, .ty "tuple", .base (.tup ha8), kit_ty kt3, _, rfl, iteT ⟨_, rfl, a8, _, rfl, .inr (.of ha8), rfl, _, rfl, iteT ⟨_, rfl, a8, _, _, _, rfl, rfl, .of ha8, atI_nat (j := 2) rfl, _, _, _, _, _, rfl, .ty "tuple", .base .non, kit_ty kt1, _, rfl, iteF (iteF ?_)⟩⟩⟩
          refine same_due (i := 3) rfl hx8 (vk10 (by omega) vkS) g8 fun H9 k9 g9 => ⟨_, _, _, rfl, hx8.mono (KG.tups g8 k9), vkS, KG.drd g8 k9 D8, g9⟩
        | some bs =>
          have hx0 := hx8
          obtain ⟨a8, bb, wv, pv, us, rfl, ha8, hw8, hp8, hbb, pb⟩ := hx0
          have v3 : bs.length ≤ 40 ∧ ∀ b ∈ bs, Bk3 b := hk8.va3 (by omega)
          refine ⟨_, rfl, _, _, _, _, _, rfl, .ty "tuple", .base (.tup ha8), kit_ty kt3, _, rfl, iteT ⟨_, rfl, a8, _, rfl, .inr (.of ha8), rfl, _, rfl, iteT ⟨_, rfl, a8, _, _, _, rfl, rfl, .of ha8, atI_nat (j := 2) rfl, _, _, _, _, _, rfl, .ty "tuple", .base (.tup hbb), kit_ty kt3, _, rfl, iteT ?_⟩⟩⟩
          refine ⟨_, rfl, a8, _, _, _, rfl, rfl, .of ha8, atI_nat (j := 2) rfl, Nat.zero_le _, fun pe hpe => ?_⟩
          have s9 := same_new (o := .tup []) hpe
          have he9 : (upd H8 pe (.tup [])) pe = some (.tup []) := upd_same
          generalize upd H8 pe (.tup []) = H9 at s9 he9 ⊢
          have g9 := g8.same s9
          have D9 := D8.same s9
          have hx9 := hx8.mono (Tups.of s9)
          refine ⟨.tuple (bs.map bkD), .tuple [], .tup (.inl (.of (s9 _ _ hbb))) (dp_bks (L2.Paired.mapP pb fun _ _ z => BkAt.mono (Tups.of s9) z)), .tup (.inl (.of he9)) .nil, (sh_bks v3.2).2, rfl, _, rfl, ?_⟩
          rw [eqv_nilT]
          cases hne : (bs.map bkD).isEmpty with
          | true =>
            refine iteF (iteF ?_)
            refine same_due (i := 3) rfl hx9 (vk10 (by omega) vkS) g9 fun H10 k10 g10 => ⟨_, _, _, rfl, hx9.mono (KG.tups g9 k10), vkS, KG.drd g9 k10 D9, g10⟩
          | false =>
            refine iteT ⟨_, rfl, _, _, rfl, hx9, hk8.va3 (by omega), fun r H10 L s10 _ hL hD => ?_⟩
            refine ⟨_, rfl, (by show 2 ≤ sizeLine; decide), fun ta hta => ⟨(by show 1 ≤ sizeLine; decide), fun rr hrr => ?_⟩⟩
            have s11 := same_new (o := .tup [.int (-1), .str ("form" : Str)]) hta
            have h11 : (upd H10 ta (.tup [.int (-1), .str ("form" : Str)])) ta = some (.tup [.int (-1), .str ("form" : Str)]) := upd_same
            have s12 := same_new (o := .lst [.ref ta]) hrr
            have h12 : LAt (upd (upd H10 ta (.tup [.int (-1), .str ("form" : Str)])) rr (.lst [.ref ta])) rr [((-1 : Int), ("form" : Str))] := ⟨_, upd_same, .cons ⟨ta, rfl, s12 _ _ h11⟩ .nil⟩
            have s1012 := s11.trans s12
            refine ⟨.list (L.map pD), .list ([((-1 : Int), ("form" : Str))].map pD), dp_due (LAt.kg (g9.same s10) (KG.of s1012) hL), dp_due h12, due_ok hD, sh_ps (fun p hp => .inl (List.mem_singleton.mp hp)), _, rfl, ?_⟩
            have s912 := s10.trans s1012
            clear h12
            generalize upd (upd H10 ta (.tup [.int (-1), .str ("form" : Str)])) rr (.lst [.ref ta]) = H12 at s912 ⊢
            have g12 := g9.same s912
            have D12 := D9.same s912
            have hx12 := hx9.mono (Tups.of s912)
            rw [eqv_ps]
            cases hfo : formB (.three w p (some bs)) with
            | false =>
              have e3 : L = [((-1 : Int), ("form" : Str))] := due_one hD (isDue_form (by show (if formB _ then _ else _) = _; rw [hfo]; rfl))
              rw [decide_eq_true e3]
              refine iteF ?_
              refine same_due (i := 3) rfl hx12 (vk10 (by omega) vkS) g12 fun H13 k13 g13 => ⟨_, _, _, rfl, hx12.mono (KG.tups g12 k13), vkS, KG.drd g12 k13 D12, g13⟩
            | true =>
              have e3 : ¬ L = [((-1 : Int), ("form" : Str))] := fun e => by
                have h1 := (hD.2 (-1, ("form" : Str))).mp (by rw [e]; exact List.mem_singleton.mpr rfl)
                have h1 : ((-1 : Int), ("form" : Str)) ∈ (if formB (.three w p (some bs)) then bksF (widI w) (bs.map labI) bs else [((-1 : Int), ("form" : Str))]) := h1
                rw [hfo, if_pos rfl] at h1
                obtain ⟨b, _, hc⟩ := List.mem_flatMap.mp h1
                obtain ⟨c', hc2, ee⟩ := List.mem_map.mp hc
                have := codes_sub _ _ b c' hc2
                rw [(Prod.mk.inj ee).2] at this
                exact absurd this (by decide +kernel)
              rw [decide_eq_false e3]
              refine iteT ⟨_, rfl, _, rfl, i, d, c, ms, _, _, rfl, hi5, D12, hx12, hfo, hk8, fun v' H13 x' D13 k13 hx13 hk13 => ?_⟩
              refine same_due (i := 3) rfl hx13 (vk10 (by omega) hk13) (g12.keep D12 k13) fun H14 k14 g14 => ⟨_, _, _, rfl, hx13.mono (KG.tups (g12.keep D12 k13) k14), hk13, KG.drd (g12.keep D12 k13) k14 D13, g14⟩
    · rintro σ H8 ⟨v, x, y4, rfl, _⟩
      exact q H8
end
end K0

set_option Elab.async false
set_option linter.all false
set_option maxRecDepth 100000
set_option maxHeartbeats 2000000
namespace K0
open PySem L2
theorem ok_topP {P : Program} {w : World} {K : PySem.W.Frag} {mg : Str → Option Value} {base : Heap} {f : Addr} {fd : FuncData} (F : Fun K "top" "top" sTop f fd) : FnOk P w K mg base CX0 1 f fd ["w"] spTop := by
  refine F.ok scTop (fun vs H Q E h => ?_) (fun cdv A outer s H vs Q E hr h => ?_)
  · obtain ⟨W, rfl, _⟩ := h
    rfl
  · obtain ⟨W, rfl, hW, q⟩ := h
    refine ⟨_, pss_one (ps_ret (pe_op op_sub (pe_op op_shl pe_int (pv 0)) pe_int)), ?_⟩
    refine ⟨_, rfl, 1, W, rfl, rfl, ⟨by omega, by omega, by decide⟩, _, _, rfl, rfl, ?_⟩
    rw [one_pow]
    exact q
theorem all_mk {l : PySem.W.OpenLaw} {q : Program} {w : World} {K : PySem.W.Frag} {h : Heap} {mg : Str → Option Value} {fa f1 f2 f3 f4 f5 f6 f7 f8 f9 f10 f11 f12 f13 f14 f15 f16 f17 f18 f19 f20 f21 f22 f23 f24 f25 f26 f27 f28 f29 f30 : Addr} (TI : GxA.TabsIn q K h)
    (hrec_is_expression : ((PyProof.Rows.recsOf q).any fun e => e.name == "is_expression") = true)
    (hrec__has_form : ((PyProof.Rows.recsOf q).any fun e => e.name == "_has_form") = true)
    (hrec__block_faults : ((PyProof.Rows.recsOf q).any fun e => e.name == "_block_faults") = true)
    (X : K.In h) (G : h.Ns mainGlobals mg) (hfa : mg "law" = some (.ref fa))
    {od1 an1 od2 an2 od3 an3 od4 an4 od5 an5 od6 an6 od7 an7 od8 an8 od9 an9 od10 an10 od11 an11 od12 an12 od13 an13 od14 an14 od15 an15 od16 an16 od17 an17 od18 an18 od19 an19 od20 an20 od21 an21 od22 an22 od23 an23 od24 an24 od25 an25 od26 an26 od27 an27 od28 an28 od29 an29 od30 an30 : Option Addr} {sl1 sl2 sl3 sl4 sl5 sl6 sl7 sl8 sl9 sl10 sl11 sl12 sl13 sl14 sl15 sl16 sl17 sl18 sl19 sl20 sl21 sl22 sl23 sl24 sl25 sl26 sl27 sl28 sl29 sl30 : Array (Option Value)} {oc1 kV1 dc1 pm1 cd1 ct1 oc2 kV2 dc2 pm2 cd2 ct2 oc3 kV3 dc3 pm3 cd3 ct3 oc4 kV4 dc4 pm4 cd4 ct4 oc5 kV5 dc5 pm5 ct5 oc6 kV6 dc6 pm6 cd6 ct6 oc7 kV7 dc7 pm7 cd7 ct7 oc8 kV8 dc8 pm8 cd8 ct8 oc9 kV9 dc9 pm9 cd9 ct9 oc10 kV10 dc10 pm10 ct10 oc11 kV11 dc11 pm11 ct11 oc12 kV12 dc12 pm12 cd12 ct12 oc13 kV13 dc13 pm13 cd13 ct13 oc14 kV14 dc14 pm14 cd14 ct14 oc15 kV15 dc15 pm15 cd15 ct15 oc16 kV16 dc16 pm16 cd16 ct16 oc17 kV17 dc17 pm17 cd17 ct17 oc18 kV18 dc18 pm18 cd18 ct18 oc19 kV19 dc19 pm19 cd19 ct19 oc20 kV20 dc20 pm20 cd20 ct20 oc21 kV21 dc21 pm21 cd21 ct21 oc22 kV22 dc22 pm22 cd22 ct22 oc23 kV23 dc23 pm23 cd23 ct23 oc24 kV24 dc24 pm24 cd24 ct24 oc25 kV25 dc25 pm25 cd25 ct25 oc26 kV26 dc26 pm26 cd26 ct26 oc27 kV27 dc27 pm27 cd27 ct27 oc28 kV28 dc28 pm28 cd28 ct28 oc29 kV29 dc29 pm29 cd29 ct29 oc30 kV30 dc30 pm30 cd30 ct30 : Value}
    {ocl_is_expression : Value} {od_is_expression : Option Addr} {vC_is_expression : Array Value} {sC_is_expression : Array (Option Value)}
    {ocl__has_form : Value} {od__has_form : Option Addr} {vC__has_form : Array Value} {sC__has_form : Array (Option Value)}
    {ocl__block_faults : Value} {od__block_faults : Option Addr} {vC__block_faults : Array Value} {sC__block_faults : Array (Option Value)}
    {c_is_expression T_is_expression c__has_form T__has_form c__block_faults T__block_faults : Addr} {u_LAST_LABEL u_LAST_VARIABLE u_MOST_BLOCKS u_MOST_ITEMS u_MOST_DEEP u_MOST_PARAMS : Nat}
    {pP pS : Addr} {odP odS : Option Addr} {slP slS : Array (Option Value)} {iP iS : Array Value} {nP nS : Nat} (aP : PySem.W.nsIn K mainGlobals "PAIRS" = some (some (.ref pP))) (lP : K.lookup pP = some ⟨.type "tuple", odP, .seq iP nP, slP⟩) (vP : Vals ten iP.toList) (zP : iP.size ≤ sizeLine)
    (aS : PySem.W.nsIn K mainGlobals "SINGLES" = some (some (.ref pS))) (lS : K.lookup pS = some ⟨.type "tuple", odS, .seq iS nS, slS⟩) (vS : Vals [.str "not", .str "neg"] iS.toList) (zS : iS.size ≤ sizeLine)
    (a_LAST_LABEL : PySem.W.nsIn K mainGlobals "LAST_LABEL" = some (some (.int 999 u_LAST_LABEL)))
    (a_LAST_VARIABLE : PySem.W.nsIn K mainGlobals "LAST_VARIABLE" = some (some (.int 99 u_LAST_VARIABLE)))
    (a_MOST_BLOCKS : PySem.W.nsIn K mainGlobals "MOST_BLOCKS" = some (some (.int 40 u_MOST_BLOCKS)))
    (a_MOST_ITEMS : PySem.W.nsIn K mainGlobals "MOST_ITEMS" = some (some (.int 60 u_MOST_ITEMS)))
    (a_MOST_DEEP : PySem.W.nsIn K mainGlobals "MOST_DEEP" = some (some (.int 20 u_MOST_DEEP)))
    (a_MOST_PARAMS : PySem.W.nsIn K mainGlobals "MOST_PARAMS" = some (some (.int 6 u_MOST_PARAMS)))
    (a1 : PySem.W.nsIn K mainGlobals "is_within" = some (some (.ref f1))) (l1 : K.lookup f1 = some ⟨oc1, od1, .func (PySem.W.fnOf "is_within" "is_within" (defArgs sWi) (defBody sWi) (defScope sWi) .none kV1 dc1 pm1 an1 cd1 ct1), sl1⟩) (c1 : PySem.W.codeIn K cd1 "is_within" = true) (k1 : PySem.W.keepIn K (.ref f1) = true)
    (a2 : PySem.W.nsIn K mainGlobals "is_row" = some (some (.ref f2))) (l2 : K.lookup f2 = some ⟨oc2, od2, .func (PySem.W.fnOf "is_row" "is_row" (defArgs sRo) (defBody sRo) (defScope sRo) .none kV2 dc2 pm2 an2 cd2 ct2), sl2⟩) (c2 : PySem.W.codeIn K cd2 "is_row" = true) (k2 : PySem.W.keepIn K (.ref f2) = true)
    (a3 : PySem.W.nsIn K mainGlobals "top" = some (some (.ref f3))) (l3 : K.lookup f3 = some ⟨oc3, od3, .func (PySem.W.fnOf "top" "top" (defArgs sTop) (defBody sTop) (defScope sTop) .none kV3 dc3 pm3 an3 cd3 ct3), sl3⟩) (c3 : PySem.W.codeIn K cd3 "top" = true) (k3 : PySem.W.keepIn K (.ref f3) = true)
    (a4 : PySem.W.nsIn K mainGlobals "is_width" = some (some (.ref f4))) (l4 : K.lookup f4 = some ⟨oc4, od4, .func (PySem.W.fnOf "is_width" "is_width" (defArgs sWd) (defBody sWd) (defScope sWd) .none kV4 dc4 pm4 an4 cd4 ct4), sl4⟩) (c4 : PySem.W.codeIn K cd4 "is_width" = true) (k4 : PySem.W.keepIn K (.ref f4) = true)
    (a5 : PySem.W.nsIn K mainGlobals "is_expression" = some (some (.ref f5))) (l5 : K.lookup f5 = some ⟨oc5, od5, .func (PySem.W.fnOf "is_expression" "is_expression" (defArgs sIsE) (defBody sIsE) (defScope sIsE) .none kV5 dc5 pm5 an5 (.ref c_is_expression) ct5), sl5⟩) (c5 : PySem.W.codeIn K (.ref c_is_expression) "is_expression" = true) (k5 : PySem.W.keepIn K (.ref f5) = true)
    (a6 : PySem.W.nsIn K mainGlobals "_is_statement" = some (some (.ref f6))) (l6 : K.lookup f6 = some ⟨oc6, od6, .func (PySem.W.fnOf "_is_statement" "_is_statement" (defArgs sIsS) (defBody sIsS) (defScope sIsS) .none kV6 dc6 pm6 an6 cd6 ct6), sl6⟩) (c6 : PySem.W.codeIn K cd6 "_is_statement" = true) (k6 : PySem.W.keepIn K (.ref f6) = true)
    (a7 : PySem.W.nsIn K mainGlobals "_is_label" = some (some (.ref f7))) (l7 : K.lookup f7 = some ⟨oc7, od7, .func (PySem.W.fnOf "_is_label" "_is_label" (defArgs sIsL) (defBody sIsL) (defScope sIsL) .none kV7 dc7 pm7 an7 cd7 ct7), sl7⟩) (c7 : PySem.W.codeIn K cd7 "_is_label" = true) (k7 : PySem.W.keepIn K (.ref f7) = true)
    (a8 : PySem.W.nsIn K mainGlobals "_is_end" = some (some (.ref f8))) (l8 : K.lookup f8 = some ⟨oc8, od8, .func (PySem.W.fnOf "_is_end" "_is_end" (defArgs sIsEnd) (defBody sIsEnd) (defScope sIsEnd) .none kV8 dc8 pm8 an8 cd8 ct8), sl8⟩) (c8 : PySem.W.codeIn K cd8 "_is_end" = true) (k8 : PySem.W.keepIn K (.ref f8) = true)
    (a9 : PySem.W.nsIn K mainGlobals "_has_block_form" = some (some (.ref f9))) (l9 : K.lookup f9 = some ⟨oc9, od9, .func (PySem.W.fnOf "_has_block_form" "_has_block_form" (defArgs sHBF) (defBody sHBF) (defScope sHBF) .none kV9 dc9 pm9 an9 cd9 ct9), sl9⟩) (c9 : PySem.W.codeIn K cd9 "_has_block_form" = true) (k9 : PySem.W.keepIn K (.ref f9) = true)
    (a10 : PySem.W.nsIn K mainGlobals "_has_form" = some (some (.ref f10))) (l10 : K.lookup f10 = some ⟨oc10, od10, .func (PySem.W.fnOf "_has_form" "_has_form" (defArgs sHF) (defBody sHF) (defScope sHF) .none kV10 dc10 pm10 an10 (.ref c__has_form) ct10), sl10⟩) (c10 : PySem.W.codeIn K (.ref c__has_form) "_has_form" = true) (k10 : PySem.W.keepIn K (.ref f10) = true)
    (a11 : PySem.W.nsIn K mainGlobals "_block_faults" = some (some (.ref f11))) (l11 : K.lookup f11 = some ⟨oc11, od11, .func (PySem.W.fnOf "_block_faults" "_block_faults" (defArgs sBF) (defBody sBF) (defScope sBF) .none kV11 dc11 pm11 an11 (.ref c__block_faults) ct11), sl11⟩) (c11 : PySem.W.codeIn K (.ref c__block_faults) "_block_faults" = true) (k11 : PySem.W.keepIn K (.ref f11) = true)
    (a12 : PySem.W.nsIn K mainGlobals "function_faults" = some (some (.ref f12))) (l12 : K.lookup f12 = some ⟨oc12, od12, .func (PySem.W.fnOf "function_faults" "function_faults" (defArgs sFF) (defBody sFF) (defScope sFF) .none kV12 dc12 pm12 an12 cd12 ct12), sl12⟩) (c12 : PySem.W.codeIn K cd12 "function_faults" = true) (k12 : PySem.W.keepIn K (.ref f12) = true)
    (a13 : PySem.W.nsIn K mainGlobals "successors" = some (some (.ref f13))) (l13 : K.lookup f13 = some ⟨oc13, od13, .func (PySem.W.fnOf "successors" "successors" (defArgs sSucc) (defBody sSucc) (defScope sSucc) .none kV13 dc13 pm13 an13 cd13 ct13), sl13⟩) (c13 : PySem.W.codeIn K cd13 "successors" = true) (k13 : PySem.W.keepIn K (.ref f13) = true)
    (a14 : PySem.W.nsIn K mainGlobals "_law_draw" = some (some (.ref f14))) (l14 : K.lookup f14 = some ⟨oc14, od14, .func (PySem.W.fnOf "_law_draw" "_law_draw" (defArgs sDraw) (defBody sDraw) (defScope sDraw) .none kV14 dc14 pm14 an14 cd14 ct14), sl14⟩) (c14 : PySem.W.codeIn K cd14 "_law_draw" = true) (k14 : PySem.W.keepIn K (.ref f14) = true)
    (a15 : PySem.W.nsIn K mainGlobals "_law_take" = some (some (.ref f15))) (l15 : K.lookup f15 = some ⟨oc15, od15, .func (PySem.W.fnOf "_law_take" "_law_take" (defArgs sTake) (defBody sTake) (defScope sTake) .none kV15 dc15 pm15 an15 cd15 ct15), sl15⟩) (c15 : PySem.W.codeIn K cd15 "_law_take" = true) (k15 : PySem.W.keepIn K (.ref f15) = true)
    (a16 : PySem.W.nsIn K mainGlobals "_law_top" = some (some (.ref f16))) (l16 : K.lookup f16 = some ⟨oc16, od16, .func (PySem.W.fnOf "_law_top" "_law_top" (defArgs sLTop) (defBody sLTop) (defScope sLTop) .none kV16 dc16 pm16 an16 cd16 ct16), sl16⟩) (c16 : PySem.W.codeIn K cd16 "_law_top" = true) (k16 : PySem.W.keepIn K (.ref f16) = true)
    (a17 : PySem.W.nsIn K mainGlobals "_law_pairs" = some (some (.ref f17))) (l17 : K.lookup f17 = some ⟨oc17, od17, .func (PySem.W.fnOf "_law_pairs" "_law_pairs" (defArgs sPairs) (defBody sPairs) (defScope sPairs) .none kV17 dc17 pm17 an17 cd17 ct17), sl17⟩) (c17 : PySem.W.codeIn K cd17 "_law_pairs" = true) (k17 : PySem.W.keepIn K (.ref f17) = true)
    (a18 : PySem.W.nsIn K mainGlobals "_law_word" = some (some (.ref f18))) (l18 : K.lookup f18 = some ⟨oc18, od18, .func (PySem.W.fnOf "_law_word" "_law_word" (defArgs sWord) (defBody sWord) (defScope sWord) .none kV18 dc18 pm18 an18 cd18 ct18), sl18⟩) (c18 : PySem.W.codeIn K cd18 "_law_word" = true) (k18 : PySem.W.keepIn K (.ref f18) = true)
    (a19 : PySem.W.nsIn K mainGlobals "_law_expression" = some (some (.ref f19))) (l19 : K.lookup f19 = some ⟨oc19, od19, .func (PySem.W.fnOf "_law_expression" "_law_expression" (defArgs sExpr) (defBody sExpr) (defScope sExpr) .none kV19 dc19 pm19 an19 cd19 ct19), sl19⟩) (c19 : PySem.W.codeIn K cd19 "_law_expression" = true) (k19 : PySem.W.keepIn K (.ref f19) = true)
    (a20 : PySem.W.nsIn K mainGlobals "_law_statement" = some (some (.ref f20))) (l20 : K.lookup f20 = some ⟨oc20, od20, .func (PySem.W.fnOf "_law_statement" "_law_statement" (defArgs sStmt) (defBody sStmt) (defScope sStmt) .none kV20 dc20 pm20 an20 cd20 ct20), sl20⟩) (c20 : PySem.W.codeIn K cd20 "_law_statement" = true) (k20 : PySem.W.keepIn K (.ref f20) = true)
    (a21 : PySem.W.nsIn K mainGlobals "_law_function" = some (some (.ref f21))) (l21 : K.lookup f21 = some ⟨oc21, od21, .func (PySem.W.fnOf "_law_function" "_law_function" (defArgs sFun) (defBody sFun) (defScope sFun) .none kV21 dc21 pm21 an21 cd21 ct21), sl21⟩) (c21 : PySem.W.codeIn K cd21 "_law_function" = true) (k21 : PySem.W.keepIn K (.ref f21) = true)
    (a22 : PySem.W.nsIn K mainGlobals "_law_in" = some (some (.ref f22))) (l22 : K.lookup f22 = some ⟨oc22, od22, .func (PySem.W.fnOf "_law_in" "_law_in" (defArgs sLIn) (defBody sLIn) (defScope sLIn) .none kV22 dc22 pm22 an22 cd22 ct22), sl22⟩) (c22 : PySem.W.codeIn K cd22 "_law_in" = true) (k22 : PySem.W.keepIn K (.ref f22) = true)
    (a23 : PySem.W.nsIn K mainGlobals "_law_is_expression" = some (some (.ref f23))) (l23 : K.lookup f23 = some ⟨oc23, od23, .func (PySem.W.fnOf "_law_is_expression" "_law_is_expression" (defArgs sLIsE) (defBody sLIsE) (defScope sLIsE) .none kV23 dc23 pm23 an23 cd23 ct23), sl23⟩) (c23 : PySem.W.codeIn K cd23 "_law_is_expression" = true) (k23 : PySem.W.keepIn K (.ref f23) = true)
    (a24 : PySem.W.nsIn K mainGlobals "_law_is_statement" = some (some (.ref f24))) (l24 : K.lookup f24 = some ⟨oc24, od24, .func (PySem.W.fnOf "_law_is_statement" "_law_is_statement" (defArgs sLIsS) (defBody sLIsS) (defScope sLIsS) .none kV24 dc24 pm24 an24 cd24 ct24), sl24⟩) (c24 : PySem.W.codeIn K cd24 "_law_is_statement" = true) (k24 : PySem.W.keepIn K (.ref f24) = true)
    (a25 : PySem.W.nsIn K mainGlobals "_law_targets" = some (some (.ref f25))) (l25 : K.lookup f25 = some ⟨oc25, od25, .func (PySem.W.fnOf "_law_targets" "_law_targets" (defArgs sLTg) (defBody sLTg) (defScope sLTg) .none kV25 dc25 pm25 an25 cd25 ct25), sl25⟩) (c25 : PySem.W.codeIn K cd25 "_law_targets" = true) (k25 : PySem.W.keepIn K (.ref f25) = true)
    (a26 : PySem.W.nsIn K mainGlobals "_law_is_block" = some (some (.ref f26))) (l26 : K.lookup f26 = some ⟨oc26, od26, .func (PySem.W.fnOf "_law_is_block" "_law_is_block" (defArgs sLIsB) (defBody sLIsB) (defScope sLIsB) .none kV26 dc26 pm26 an26 cd26 ct26), sl26⟩) (c26 : PySem.W.codeIn K cd26 "_law_is_block" = true) (k26 : PySem.W.keepIn K (.ref f26) = true)
    (a27 : PySem.W.nsIn K mainGlobals "_law_due" = some (some (.ref f27))) (l27 : K.lookup f27 = some ⟨oc27, od27, .func (PySem.W.fnOf "_law_due" "_law_due" (defArgs sLDue) (defBody sLDue) (defScope sLDue) .none kV27 dc27 pm27 an27 cd27 ct27), sl27⟩) (c27 : PySem.W.codeIn K cd27 "_law_due" = true) (k27 : PySem.W.keepIn K (.ref f27) = true)
    (a28 : PySem.W.nsIn K mainGlobals "_law_wrong" = some (some (.ref f28))) (l28 : K.lookup f28 = some ⟨oc28, od28, .func (PySem.W.fnOf "_law_wrong" "_law_wrong" (defArgs sLWr) (defBody sLWr) (defScope sLWr) .none kV28 dc28 pm28 an28 cd28 ct28), sl28⟩) (c28 : PySem.W.codeIn K cd28 "_law_wrong" = true) (k28 : PySem.W.keepIn K (.ref f28) = true)
    (a29 : PySem.W.nsIn K mainGlobals "_law_bent" = some (some (.ref f29))) (l29 : K.lookup f29 = some ⟨oc29, od29, .func (PySem.W.fnOf "_law_bent" "_law_bent" (defArgs sLBent) (defBody sLBent) (defScope sLBent) .none kV29 dc29 pm29 an29 cd29 ct29), sl29⟩) (c29 : PySem.W.codeIn K cd29 "_law_bent" = true) (k29 : PySem.W.keepIn K (.ref f29) = true)
    (a30 : PySem.W.nsIn K mainGlobals "law" = some (some (.ref f30))) (l30 : K.lookup f30 = some ⟨oc30, od30, .func (PySem.W.fnOf "law" "law" (defArgs sLaw) (defBody sLaw) (defScope sLaw) .none kV30 dc30 pm30 an30 cd30 ct30), sl30⟩) (c30 : PySem.W.codeIn K cd30 "law" = true) (k30 : PySem.W.keepIn K (.ref f30) = true)
    (lc_is_expression : K.lookup c_is_expression = some ⟨ocl_is_expression, od_is_expression, .fields vC_is_expression, sC_is_expression⟩) (v_is_expression : vC_is_expression[11]? = some (.ref T_is_expression)) (n_T_is_expression : K.lookup T_is_expression = none)
    (lc__has_form : K.lookup c__has_form = some ⟨ocl__has_form, od__has_form, .fields vC__has_form, sC__has_form⟩) (v__has_form : vC__has_form[11]? = some (.ref T__has_form)) (n_T__has_form : K.lookup T__has_form = none)
    (lc__block_faults : K.lookup c__block_faults = some ⟨ocl__block_faults, od__block_faults, .fields vC__block_faults, sC__block_faults⟩) (v__block_faults : vC__block_faults[11]? = some (.ref T__block_faults)) (n_T__block_faults : K.lookup T__block_faults = none)
    (z_len : PySem.W.nsIn K mainGlobals "len" = some none)
    (z_int : PySem.W.nsIn K mainGlobals "int" = some none)
    (z_abs : PySem.W.nsIn K mainGlobals "abs" = some none)
    (z_range : PySem.W.nsIn K mainGlobals "range" = some none)
    (z_min : PySem.W.nsIn K mainGlobals "min" = some none)
    (z_tuple : PySem.W.nsIn K mainGlobals "tuple" = some none)
    (z_type : PySem.W.nsIn K mainGlobals "type" = some none)
    (z_all : PySem.W.nsIn K mainGlobals "all" = some none)
    (z_any : PySem.W.nsIn K mainGlobals "any" = some none)
    (z_sorted : PySem.W.nsIn K mainGlobals "sorted" = some none)
    (z_isinstance : PySem.W.nsIn K mainGlobals "isinstance" = some none)
    (z_str : PySem.W.nsIn K mainGlobals "str" = some none)
    (z_bool : PySem.W.nsIn K mainGlobals "bool" = some none) :
    LamX.LawAtS l w K CX0 49 63 "script" mg fa h := by
  have e := hfa.symm.trans (PySem.W.mg_of X G a30)
  cases e
  have F1 := fun_mk (st := sWi) l1 c1 k1
  have b1 := F1.binds (ps := ["value", "least", "most"]) fun _ _ _ _ _ _ us hl => match us, hl with | [_, _, _], _ => rfl
  have m1 := PySem.W.mg_of X G a1
  have F2 := fun_mk (st := sRo) l2 c2 k2
  have b2 := F2.binds (ps := ["value", "size"]) fun _ _ _ _ _ _ us hl => match us, hl with | [_, _], _ => rfl
  have m2 := PySem.W.mg_of X G a2
  have F3 := fun_mk (st := sTop) l3 c3 k3
  have b3 := F3.binds (ps := ["w"]) fun _ _ _ _ _ _ us hl => match us, hl with | [_], _ => rfl
  have m3 := PySem.W.mg_of X G a3
  have F4 := fun_mk (st := sWd) l4 c4 k4
  have b4 := F4.binds (ps := ["value"]) fun _ _ _ _ _ _ us hl => match us, hl with | [_], _ => rfl
  have m4 := PySem.W.mg_of X G a4
  have F5 := fun_mk (st := sIsE) l5 c5 k5
  have b5 := F5.binds (ps := ["width", "value", "deep"]) fun _ _ _ _ _ _ us hl => match us, hl with | [_, _, _], _ => rfl
  have m5 := PySem.W.mg_of X G a5
  have F6 := fun_mk (st := sIsS) l6 c6 k6
  have b6 := F6.binds (ps := ["width", "value"]) fun _ _ _ _ _ _ us hl => match us, hl with | [_, _], _ => rfl
  have m6 := PySem.W.mg_of X G a6
  have F7 := fun_mk (st := sIsL) l7 c7 k7
  have b7 := F7.binds (ps := ["value"]) fun _ _ _ _ _ _ us hl => match us, hl with | [_], _ => rfl
  have m7 := PySem.W.mg_of X G a7
  have F8 := fun_mk (st := sIsEnd) l8 c8 k8
  have b8 := F8.binds (ps := ["width", "value"]) fun _ _ _ _ _ _ us hl => match us, hl with | [_, _], _ => rfl
  have m8 := PySem.W.mg_of X G a8
  have F9 := fun_mk (st := sHBF) l9 c9 k9
  have b9 := F9.binds (ps := ["value"]) fun _ _ _ _ _ _ us hl => match us, hl with | [_], _ => rfl
  have m9 := PySem.W.mg_of X G a9
  have F10 := fun_mk (st := sHF) l10 c10 k10
  have b10 := F10.binds (ps := ["value"]) fun _ _ _ _ _ _ us hl => match us, hl with | [_], _ => rfl
  have m10 := PySem.W.mg_of X G a10
  have F11 := fun_mk (st := sBF) l11 c11 k11
  have b11 := F11.binds (ps := ["width", "block", "labels"]) fun _ _ _ _ _ _ us hl => match us, hl with | [_, _, _], _ => rfl
  have m11 := PySem.W.mg_of X G a11
  have F12 := fun_mk (st := sFF) l12 c12 k12
  have b12 := F12.binds (ps := ["value"]) fun _ _ _ _ _ _ us hl => match us, hl with | [_], _ => rfl
  have m12 := PySem.W.mg_of X G a12
  have F13 := fun_mk (st := sSucc) l13 c13 k13
  have b13 := F13.binds (ps := ["block"]) fun _ _ _ _ _ _ us hl => match us, hl with | [_], _ => rfl
  have m13 := PySem.W.mg_of X G a13
  have F14 := fun_mk (st := sDraw) l14 c14 k14
  have b14 := F14.binds (ps := ["script"]) fun _ _ _ _ _ _ us hl => match us, hl with | [_], _ => rfl
  have m14 := PySem.W.mg_of X G a14
  have F15 := fun_mk (st := sTake) l15 c15 k15
  have b15 := F15.binds (ps := ["draw", "many"]) fun _ _ _ _ _ _ us hl => match us, hl with | [_, _], _ => rfl
  have m15 := PySem.W.mg_of X G a15
  have F16 := fun_mk (st := sLTop) l16 c16 k16
  have b16 := F16.binds (ps := ["w"]) fun _ _ _ _ _ _ us hl => match us, hl with | [_], _ => rfl
  have m16 := PySem.W.mg_of X G a16
  have F17 := fun_mk (st := sPairs) l17 c17 k17
  have b17 := F17.binds (ps := []) fun _ _ _ _ _ _ us hl => match us, hl with | [], _ => rfl
  have m17 := PySem.W.mg_of X G a17
  have F18 := fun_mk (st := sWord) l18 c18 k18
  have b18 := F18.binds (ps := ["draw", "w"]) fun _ _ _ _ _ _ us hl => match us, hl with | [_, _], _ => rfl
  have m18 := PySem.W.mg_of X G a18
  have F19 := fun_mk (st := sExpr) l19 c19 k19
  have b19 := F19.binds (ps := ["p", "depth"]) fun _ _ _ _ _ _ us hl => match us, hl with | [_, _], _ => rfl
  have m19 := PySem.W.mg_of X G a19
  have F20 := fun_mk (st := sStmt) l20 c20 k20
  have b20 := F20.binds (ps := ["p"]) fun _ _ _ _ _ _ us hl => match us, hl with | [_], _ => rfl
  have m20 := PySem.W.mg_of X G a20
  have F21 := fun_mk (st := sFun) l21 c21 k21
  have b21 := F21.binds (ps := ["draw", "blocks", "most"]) fun _ _ _ _ _ _ us hl => match us, hl with | [_, _, _], _ => rfl
  have m21 := PySem.W.mg_of X G a21
  have F22 := fun_mk (st := sLIn) l22 c22 k22
  have b22 := F22.binds (ps := ["x", "least", "most"]) fun _ _ _ _ _ _ us hl => match us, hl with | [_, _, _], _ => rfl
  have m22 := PySem.W.mg_of X G a22
  have F23 := fun_mk (st := sLIsE) l23 c23 k23
  have b23 := F23.binds (ps := ["e", "w", "depth"]) fun _ _ _ _ _ _ us hl => match us, hl with | [_, _, _], _ => rfl
  have m23 := PySem.W.mg_of X G a23
  have F24 := fun_mk (st := sLIsS) l24 c24 k24
  have b24 := F24.binds (ps := ["s", "w"]) fun _ _ _ _ _ _ us hl => match us, hl with | [_, _], _ => rfl
  have m24 := PySem.W.mg_of X G a24
  have F25 := fun_mk (st := sLTg) l25 c25 k25
  have b25 := F25.binds (ps := ["end", "w"]) fun _ _ _ _ _ _ us hl => match us, hl with | [_, _], _ => rfl
  have m25 := PySem.W.mg_of X G a25
  have F26 := fun_mk (st := sLIsB) l26 c26 k26
  have b26 := F26.binds (ps := ["row"]) fun _ _ _ _ _ _ us hl => match us, hl with | [_], _ => rfl
  have m26 := PySem.W.mg_of X G a26
  have F27 := fun_mk (st := sLDue) l27 c27 k27
  have b27 := F27.binds (ps := ["value"]) fun _ _ _ _ _ _ us hl => match us, hl with | [_], _ => rfl
  have m27 := PySem.W.mg_of X G a27
  have F28 := fun_mk (st := sLWr) l28 c28 k28
  have b28 := F28.binds (ps := ["draw", "w"]) fun _ _ _ _ _ _ us hl => match us, hl with | [_, _], _ => rfl
  have m28 := PySem.W.mg_of X G a28
  have F29 := fun_mk (st := sLBent) l29 c29 k29
  have b29 := F29.binds (ps := ["draw", "function"]) fun _ _ _ _ _ _ us hl => match us, hl with | [_, _], _ => rfl
  have m29 := PySem.W.mg_of X G a29
  have F30 := fun_mk (st := sLaw) l30 c30 k30
  have m30 := PySem.W.mg_of X G a30
  have n_len := PySem.W.mg_none_of X G z_len
  have n_int := PySem.W.mg_none_of X G z_int
  have n_abs := PySem.W.mg_none_of X G z_abs
  have n_range := PySem.W.mg_none_of X G z_range
  have n_min := PySem.W.mg_none_of X G z_min
  have n_tuple := PySem.W.mg_none_of X G z_tuple
  have n_type := PySem.W.mg_none_of X G z_type
  have n_all := PySem.W.mg_none_of X G z_all
  have n_any := PySem.W.mg_none_of X G z_any
  have n_sorted := PySem.W.mg_none_of X G z_sorted
  have n_isinstance := PySem.W.mg_none_of X G z_isinstance
  have n_str := PySem.W.mg_none_of X G z_str
  have n_bool := PySem.W.mg_none_of X G z_bool
  have m_LAST_LABEL := PySem.W.mg_of X G a_LAST_LABEL
  have m_LAST_VARIABLE := PySem.W.mg_of X G a_LAST_VARIABLE
  have m_MOST_BLOCKS := PySem.W.mg_of X G a_MOST_BLOCKS
  have m_MOST_ITEMS := PySem.W.mg_of X G a_MOST_ITEMS
  have m_MOST_DEEP := PySem.W.mg_of X G a_MOST_DEEP
  have m_MOST_PARAMS := PySem.W.mg_of X G a_MOST_PARAMS
  have t_is_expression : PySem.W.tabIn K "is_expression" = some (c_is_expression, T_is_expression) := by
    unfold PySem.W.tabIn
    rw [a5]
    simp only [l5, PySem.W.fnOf, lc_is_expression, v_is_expression]
  have FC_is_expression := GxA.funC_mk (st := sIsE) a5 l5 c5 t_is_expression
  obtain ⟨chd_is_expression, ctb_is_expression⟩ := TI "is_expression" c_is_expression T_is_expression hrec_is_expression t_is_expression
  have t__has_form : PySem.W.tabIn K "_has_form" = some (c__has_form, T__has_form) := by
    unfold PySem.W.tabIn
    rw [a10]
    simp only [l10, PySem.W.fnOf, lc__has_form, v__has_form]
  have FC__has_form := GxA.funC_mk (st := sHF) a10 l10 c10 t__has_form
  obtain ⟨chd__has_form, ctb__has_form⟩ := TI "_has_form" c__has_form T__has_form hrec__has_form t__has_form
  have t__block_faults : PySem.W.tabIn K "_block_faults" = some (c__block_faults, T__block_faults) := by
    unfold PySem.W.tabIn
    rw [a11]
    simp only [l11, PySem.W.fnOf, lc__block_faults, v__block_faults]
  have FC__block_faults := GxA.funC_mk (st := sBF) a11 l11 c11 t__block_faults
  obtain ⟨chd__block_faults, ctb__block_faults⟩ := TI "_block_faults" c__block_faults T__block_faults hrec__block_faults t__block_faults
  refine ⟨PySem.W.fnOf "law" "law" (defArgs sLaw) (defBody sLaw) (defScope sLaw) .none kV30 dc30 pm30 an30 cd30 ct30, [(c_is_expression, T_is_expression), (c__has_form, T__has_form), (c__block_faults, T__block_faults)], spLaw K [T_is_expression, T__has_form, T__block_faults], ?_, ?_, ?_, fun s v => .of_eq rfl, ?_, fun base _ _ hTB => ?_⟩
  · intro p hp
    rcases List.mem_cons.mp hp with rfl | hp
    · exact ctb_is_expression
    rcases List.mem_cons.mp hp with rfl | hp
    · exact ctb__has_form
    rw [List.mem_singleton.mp hp]
    exact ctb__block_faults
  · intro p hp
    rcases List.mem_cons.mp hp with rfl | hp
    · exact n_T_is_expression
    rcases List.mem_cons.mp hp with rfl | hp
    · exact n_T__has_form
    rw [List.mem_singleton.mp hp]
    exact n_T__block_faults
  · intro p hp
    rcases List.mem_cons.mp hp with rfl | hp
    · exact chd_is_expression
    rcases List.mem_cons.mp hp with rfl | hp
    · exact chd__has_form
    rw [List.mem_singleton.mp hp]
    exact chd__block_faults
  · intro H a ns hl _ hT hS
    refine ⟨a, ns, rfl, hS, hl, fun T hp => ?_, fun _ => rfl⟩
    rcases List.mem_cons.mp hp with e | hp
    · rw [e]; exact GxA.tabG_nil (hT ([(c_is_expression, T_is_expression), (c__has_form, T__has_form), (c__block_faults, T__block_faults)][0]) (by simp))
    rcases List.mem_cons.mp hp with e | hp
    · rw [e]; exact GxA.tabG_nil (hT ([(c_is_expression, T_is_expression), (c__has_form, T__has_form), (c__block_faults, T__block_faults)][1]) (by simp))
    rw [List.mem_singleton.mp hp]
    exact GxA.tabG_nil (hT ([(c_is_expression, T_is_expression), (c__has_form, T__has_form), (c__block_faults, T__block_faults)][2]) (by simp))
  have TB_is_expression := GxA.tabB_of (hTB ([(c_is_expression, T_is_expression), (c__has_form, T__has_form), (c__block_faults, T__block_faults)][0]) (by simp))
  have TB__has_form := GxA.tabB_of (hTB ([(c_is_expression, T_is_expression), (c__has_form, T__has_form), (c__block_faults, T__block_faults)][1]) (by simp))
  have TB__block_faults := GxA.tabB_of (hTB ([(c_is_expression, T_is_expression), (c__has_form, T__has_form), (c__block_faults, T__block_faults)][2]) (by simp))
  have TX : TxP K mg pP pS := ⟨PySem.W.mg_of X G aP, PySem.W.mg_of X G aS, fun H => .inr ⟨_, iP, nP, lP, rfl, rfl, zP, vP⟩, fun H => .inr ⟨_, iS, nS, lS, rfl, rfl, zS, vS⟩, ⟨_, m_LAST_LABEL⟩, ⟨_, m_LAST_VARIABLE⟩, ⟨_, m_MOST_BLOCKS⟩, ⟨_, m_MOST_ITEMS⟩, ⟨_, m_MOST_DEEP⟩, ⟨_, m_MOST_PARAMS⟩⟩
  have gTake : Got l.prog w K mg base 1 "_law_take" ["draw", "many"] spTake := ⟨⟨f15, _, ok_take F15 n_len n_int, m15, k15, b15⟩⟩
  have gLTop : Got l.prog w K mg base 1 "_law_top" ["w"] spTop := ⟨⟨f16, _, ok_ltop F16, m16, k16, b16⟩⟩
  have gTopP : Got l.prog w K mg base 1 "top" ["w"] spTop := ⟨⟨f3, _, ok_topP F3, m3, k3, b3⟩⟩
  have gWord : Got l.prog w K mg base 2 "_law_word" ["draw", "w"] spWord := ⟨⟨f18, _, ok_word F18 n_int n_min gTake gLTop, m18, k18, b18⟩⟩
  have gPairs : Got l.prog w K mg base 1 "_law_pairs" [] spPairs := ⟨⟨f17, _, ok_pairs F17, m17, k17, b17⟩⟩
  have gDraw : Got l.prog w K mg base 1 "_law_draw" ["script"] (spDraw K) := ⟨⟨f14, _, ok_draw F14 n_int n_abs, m14, k14, b14⟩⟩
  have gE : GotE l.prog w K mg base := ⟨⟨f19, _, ok_expr F19 m19 k19 b19 n_len gTake gWord gPairs, m19, k19, b19⟩⟩
  have gS : Got l.prog w K mg base 7 "_law_statement" ["p"] spS := ⟨⟨f20, _, ok_stmt F20 n_len gTake gE, m20, k20, b20⟩⟩
  have gF : Got l.prog w K mg base 8 "_law_function" ["draw", "blocks", "most"] spF := ⟨⟨f21, _, ok_fun F21 n_len n_range n_tuple gTake gE gS, m21, k21, b21⟩⟩
  have gWi : Got l.prog w K mg base 1 "is_within" ["value", "least", "most"] spWi := ⟨⟨f1, _, ok_wi F1 n_type n_int, m1, k1, b1⟩⟩
  have gRo : Got l.prog w K mg base 1 "is_row" ["value", "size"] spRo := ⟨⟨f2, _, ok_ro F2 n_type n_tuple n_len, m2, k2, b2⟩⟩
  have gWd : Got l.prog w K mg base 2 "is_width" ["value"] spWd := ⟨⟨f4, _, ok_wd F4 gWi, m4, k4, b4⟩⟩
  have gIl : Got l.prog w K mg base 2 "_is_label" ["value"] spIl := ⟨⟨f7, _, ok_il F7 TX gWi, m7, k7, b7⟩⟩
  have gIE : Got l.prog w K mg base 44 "is_expression" ["width", "value", "deep"] (spIE [T_is_expression, T__has_form, T__block_faults] 21) := ⟨⟨f5, _, ok_ie FC_is_expression k5 n_len n_type n_tuple n_all TB_is_expression m5 TX b5 gWi gTopP [T_is_expression, T__has_form, T__block_faults] (by simp) 21, m5, k5, b5⟩⟩
  have gIs : Got l.prog w K mg base 45 "_is_statement" ["width", "value"] (spIs [T_is_expression, T__has_form, T__block_faults]) := ⟨⟨f6, _, ok_is F6 TX [T_is_expression, T__has_form, T__block_faults] gWi gRo gIE, m6, k6, b6⟩⟩
  have gIn : Got l.prog w K mg base 45 "_is_end" ["width", "value"] (spIn [T_is_expression, T__has_form, T__block_faults]) := ⟨⟨f8, _, ok_in F8 TX [T_is_expression, T__has_form, T__block_faults] gIl gRo gIE, m8, k8, b8⟩⟩
  have gHb : Got l.prog w K mg base 3 "_has_block_form" ["value"] spHb := ⟨⟨f9, _, ok_hb F9 TX n_len n_type n_tuple gIl gRo, m9, k9, b9⟩⟩
  have gSu : Got l.prog w K mg base 1 "successors" ["block"] spSu := ⟨⟨f13, _, ok_su F13, m13, k13, b13⟩⟩
  have gHf : Got l.prog w K mg base 5 "_has_form" ["value"] (spHf [T_is_expression, T__has_form, T__block_faults]) := ⟨⟨f10, _, ok_hf FC__has_form TX n_len n_type n_tuple n_all TB__has_form gWd gRo gWi gHb [T_is_expression, T__has_form, T__block_faults] (by simp), m10, k10, b10⟩⟩
  have gBf : Got l.prog w K mg base 47 "_block_faults" ["width", "block", "labels"] (spBf [T_is_expression, T__has_form, T__block_faults]) := ⟨⟨f11, _, ok_bf FC__block_faults n_all n_any TB__block_faults gIs gIn gSu (by simp), m11, k11, b11⟩⟩
  have gFf : Got l.prog w K mg base 48 "function_faults" ["value"] (spFf [T_is_expression, T__has_form, T__block_faults]) := ⟨⟨f12, _, ok_ff F12 n_sorted gHf gBf, m12, k12, b12⟩⟩
  have gLi : Got l.prog w K mg base 1 "_law_in" ["x", "least", "most"] spWi := ⟨⟨f22, _, ok_li F22 n_isinstance n_int n_bool, m22, k22, b22⟩⟩
  have gLE : Got l.prog w K mg base 23 "_law_is_expression" ["e", "w", "depth"] (spLE 21) := ⟨⟨f23, _, ok_le F23 n_len n_isinstance n_tuple n_str m23 k23 b23 gLi gLTop gPairs 21, m23, k23, b23⟩⟩
  have gLs : Got l.prog w K mg base 24 "_law_is_statement" ["s", "w"] spLS := ⟨⟨f24, _, ok_ls F24 n_len n_isinstance n_tuple gLi gLE, m24, k24, b24⟩⟩
  have gLt : Got l.prog w K mg base 24 "_law_targets" ["end", "w"] spLT := ⟨⟨f25, _, ok_lt F25 n_len gLi gLE, m25, k25, b25⟩⟩
  have gLb : Got l.prog w K mg base 2 "_law_is_block" ["row"] spLB := ⟨⟨f26, _, ok_lb F26 n_len n_isinstance n_tuple gLi, m26, k26, b26⟩⟩
  have gLd : Got l.prog w K mg base 25 "_law_due" ["value"] spLD := ⟨⟨f27, _, ok_ld F27 n_len n_isinstance n_tuple n_sorted n_range gLi gLs gLt gLb, m27, k27, b27⟩⟩
  have gWr : Got l.prog w K mg base 2 "_law_wrong" ["draw", "w"] spWr := ⟨⟨f28, _, ok_wr F28 n_len n_range gTake gLTop, m28, k28, b28⟩⟩
  have gBe : Got l.prog w K mg base 3 "_law_bent" ["draw", "function"] spBe := ⟨⟨f29, _, ok_be F29 n_len gTake gWr, m29, k29, b29⟩⟩
  exact ok_law F30 n_range n_len n_isinstance n_tuple gDraw gF gFf gLd gBe gTake
end K0

set_option Elab.async false
set_option linter.all false

open PySem PySem.W PyProof.Rows in
set_option maxRecDepth 100000 in
set_option maxHeartbeats 0 in
theorem PySem.Challenge.cw_leasttiles_k01_faults_of_functions_holds : PySem.Challenge.rw_leasttiles_k01_faults_of_functions.Holds := by
  w_on; o_law; k_head; (case hw => w_witness2)
  k_fill
  refine GxA.walk_ofTabs (l := PySem.Challenge.rw_leasttiles_k01_faults_of_functions) (n := 63) (k := 49) (x := "script") (CX := fun _ => L2.CX0) rfl (by decide) rfl ⟨rfl, by decide, by decide⟩ (fun w h Y => PySem.W.kIn_of Y) ?F (fun _ _ _ _ _ h => h)
  case F =>
    intro w mg fa h TI KX G hmg
    refine' K0.all_mk TI ?hrec_is_expression ?hrec__has_form ?hrec__block_faults KX G hmg ?aP ?lP ?vP ?zP ?aS ?lS ?vS ?zS ?a_LAST_LABEL ?a_LAST_VARIABLE ?a_MOST_BLOCKS ?a_MOST_ITEMS ?a_MOST_DEEP ?a_MOST_PARAMS ?a1 ?l1 ?c1 ?k1 ?a2 ?l2 ?c2 ?k2 ?a3 ?l3 ?c3 ?k3 ?a4 ?l4 ?c4 ?k4 ?a5 ?l5 ?c5 ?k5 ?a6 ?l6 ?c6 ?k6 ?a7 ?l7 ?c7 ?k7 ?a8 ?l8 ?c8 ?k8 ?a9 ?l9 ?c9 ?k9 ?a10 ?l10 ?c10 ?k10 ?a11 ?l11 ?c11 ?k11 ?a12 ?l12 ?c12 ?k12 ?a13 ?l13 ?c13 ?k13 ?a14 ?l14 ?c14 ?k14 ?a15 ?l15 ?c15 ?k15 ?a16 ?l16 ?c16 ?k16 ?a17 ?l17 ?c17 ?k17 ?a18 ?l18 ?c18 ?k18 ?a19 ?l19 ?c19 ?k19 ?a20 ?l20 ?c20 ?k20 ?a21 ?l21 ?c21 ?k21 ?a22 ?l22 ?c22 ?k22 ?a23 ?l23 ?c23 ?k23 ?a24 ?l24 ?c24 ?k24 ?a25 ?l25 ?c25 ?k25 ?a26 ?l26 ?c26 ?k26 ?a27 ?l27 ?c27 ?k27 ?a28 ?l28 ?c28 ?k28 ?a29 ?l29 ?c29 ?k29 ?a30 ?l30 ?c30 ?k30 ?lc_is_expression ?v_is_expression ?n_T_is_expression ?lc__has_form ?v__has_form ?n_T__has_form ?lc__block_faults ?v__block_faults ?n_T__block_faults ?z_len ?z_int ?z_abs ?z_range ?z_min ?z_tuple ?z_type ?z_all ?z_any ?z_sorted ?z_isinstance ?z_str ?z_bool
    (case hrec_is_expression => decide +kernel)
    (case hrec__has_form => decide +kernel)
    (case hrec__block_faults => decide +kernel)
    (case aP => k_is)
    (case lP => k_is)
    (case vP => first | (repeat' (first | exact .nil | refine .cons ⟨_, rfl⟩ ?_)))
    (case zP => decide)
    (case aS => k_is)
    (case lS => k_is)
    (case vS => first | (repeat' (first | exact .nil | refine .cons ⟨_, rfl⟩ ?_)))
    (case zS => decide)
    (case a_LAST_LABEL => k_is)
    (case a_LAST_VARIABLE => k_is)
    (case a_MOST_BLOCKS => k_is)
    (case a_MOST_ITEMS => k_is)
    (case a_MOST_DEEP => k_is)
    (case a_MOST_PARAMS => k_is)
    (case a1 => k_is)
    (case l1 => k_is)
    (case c1 => k_is)
    (case k1 => k_is)
    (case a2 => k_is)
    (case l2 => k_is)
    (case c2 => k_is)
    (case k2 => k_is)
    (case a3 => k_is)
    (case l3 => k_is)
    (case c3 => k_is)
    (case k3 => k_is)
    (case a4 => k_is)
    (case l4 => k_is)
    (case c4 => k_is)
    (case k4 => k_is)
    (case a5 => k_is)
    (case l5 => k_is)
    (case c5 => k_is)
    (case k5 => k_is)
    (case a6 => k_is)
    (case l6 => k_is)
    (case c6 => k_is)
    (case k6 => k_is)
    (case a7 => k_is)
    (case l7 => k_is)
    (case c7 => k_is)
    (case k7 => k_is)
    (case a8 => k_is)
    (case l8 => k_is)
    (case c8 => k_is)
    (case k8 => k_is)
    (case a9 => k_is)
    (case l9 => k_is)
    (case c9 => k_is)
    (case k9 => k_is)
    (case a10 => k_is)
    (case l10 => k_is)
    (case c10 => k_is)
    (case k10 => k_is)
    (case a11 => k_is)
    (case l11 => k_is)
    (case c11 => k_is)
    (case k11 => k_is)
    (case a12 => k_is)
    (case l12 => k_is)
    (case c12 => k_is)
    (case k12 => k_is)
    (case a13 => k_is)
    (case l13 => k_is)
    (case c13 => k_is)
    (case k13 => k_is)
    (case a14 => k_is)
    (case l14 => k_is)
    (case c14 => k_is)
    (case k14 => k_is)
    (case a15 => k_is)
    (case l15 => k_is)
    (case c15 => k_is)
    (case k15 => k_is)
    (case a16 => k_is)
    (case l16 => k_is)
    (case c16 => k_is)
    (case k16 => k_is)
    (case a17 => k_is)
    (case l17 => k_is)
    (case c17 => k_is)
    (case k17 => k_is)
    (case a18 => k_is)
    (case l18 => k_is)
    (case c18 => k_is)
    (case k18 => k_is)
    (case a19 => k_is)
    (case l19 => k_is)
    (case c19 => k_is)
    (case k19 => k_is)
    (case a20 => k_is)
    (case l20 => k_is)
    (case c20 => k_is)
    (case k20 => k_is)
    (case a21 => k_is)
    (case l21 => k_is)
    (case c21 => k_is)
    (case k21 => k_is)
    (case a22 => k_is)
    (case l22 => k_is)
    (case c22 => k_is)
    (case k22 => k_is)
    (case a23 => k_is)
    (case l23 => k_is)
    (case c23 => k_is)
    (case k23 => k_is)
    (case a24 => k_is)
    (case l24 => k_is)
    (case c24 => k_is)
    (case k24 => k_is)
    (case a25 => k_is)
    (case l25 => k_is)
    (case c25 => k_is)
    (case k25 => k_is)
    (case a26 => k_is)
    (case l26 => k_is)
    (case c26 => k_is)
    (case k26 => k_is)
    (case a27 => k_is)
    (case l27 => k_is)
    (case c27 => k_is)
    (case k27 => k_is)
    (case a28 => k_is)
    (case l28 => k_is)
    (case c28 => k_is)
    (case k28 => k_is)
    (case a29 => k_is)
    (case l29 => k_is)
    (case c29 => k_is)
    (case k29 => k_is)
    (case a30 => k_is)
    (case l30 => k_is)
    (case c30 => k_is)
    (case k30 => k_is)
    (case lc_is_expression => k_is)
    (case v_is_expression => first | rfl | kernel_rfl)
    (case n_T_is_expression => first | rfl | kernel_rfl)
    (case lc__has_form => k_is)
    (case v__has_form => first | rfl | kernel_rfl)
    (case n_T__has_form => first | rfl | kernel_rfl)
    (case lc__block_faults => k_is)
    (case v__block_faults => first | rfl | kernel_rfl)
    (case n_T__block_faults => first | rfl | kernel_rfl)
    (case z_len => k_is)
    (case z_int => k_is)
    (case z_abs => k_is)
    (case z_range => k_is)
    (case z_min => k_is)
    (case z_tuple => k_is)
    (case z_type => k_is)
    (case z_all => k_is)
    (case z_any => k_is)
    (case z_sorted => k_is)
    (case z_isinstance => k_is)
    (case z_str => k_is)
    (case z_bool => k_is)
