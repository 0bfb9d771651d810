import PyProof.Rows.All
import Wide.All
import OpenK.AllK
import Wide.FinOn
import HandS.Text
import HandS.ForMost
import HandS.Codes
import HandS.More
import HandS.IsInst
import HandS.CallLocal
import HandS.DictComp
import HandS.Star
import HandS.Deep
import HandS.Walk
import HandS.Rev
import HandS.Iter
import HandS.TupAny
import HandS.SortInts
import HandS.Ends
import PySem.Challenge.RW_leasttiles_k04_uses_and_ways
set_option Elab.async false
set_option maxHeartbeats 4000000
namespace K0
open PySem PyProof.Rows PySem.W
theorem one_pow (W : Nat) : (1 : Int) * 2 ^ ((W : Int)).toNat = 2 ^ W := by
  rw [Int.toNat_natCast, Int.one_mul]
theorem pow_pos (W : Nat) : (0 : Int) < 2 ^ W := Int.pow_pos (by decide)
theorem pow_cast (W : Nat) : ((2 ^ W : Nat) : Int) = 2 ^ W := by
  rw [Int.natCast_pow]; rfl
theorem pow_le16 {W : Nat} (h : W ≤ 16) : (2 : Int) ^ W ≤ 65536 := by
  have h1 : (2 : Nat) ^ W ≤ 2 ^ 16 := Nat.pow_le_pow_right (by decide) h
  have h2 : ((2 ^ W : Nat) : Int) ≤ ((2 ^ 16 : Nat) : Int) := Int.ofNat_le.mpr h1
  rw [pow_cast, pow_cast] at h2
  exact h2
theorem wrap {z S : Int} (h0 : S ≤ z) (h1 : z < S + S) : z % S = z - S := by
  have e : z = (z - S) + S * 1 := by omega
  rw [e, Int.add_mul_emod_self_left, Int.emod_eq_of_lt (by omega) (by omega)]
  omega
theorem wrap' {z S : Int} (h0 : -S ≤ z) (h1 : z < 0) : z % S = z + S := by
  have e : z = (z + S) + S * (-1) := by omega
  rw [e, Int.add_mul_emod_self_left, Int.emod_eq_of_lt (by omega) (by omega)]
  omega
theorem rest_eq (z S : Int) : z - z / S * S = z % S := by
  rw [Int.emod_def, Int.mul_comm]
/-! bits -/
theorem bits_step (n i : Nat) : n % 2 ^ (i + 1) = n % 2 ^ i + n / 2 ^ i % 2 * 2 ^ i := by
  rw [Nat.mod_pow_succ, Nat.mul_comm]
theorem bit_tb (n i : Nat) : n.testBit i = decide (n / 2 ^ i % 2 = 1) := Nat.testBit_eq_decide_div_mod_eq
theorem bit_of (n i : Nat) : n / 2 ^ i % 2 = if n.testBit i then 1 else 0 := by
  rw [bit_tb]
  have := Nat.mod_two_eq_zero_or_one (n / 2 ^ i)
  rcases this with h | h <;> simp [h]
/-- one of the three ops, bit by bit -/
def hit (op : Nat) (both : Int) : Bool := if op = 0 then both == 2 else if op = 1 then decide (0 < both) else both == 1
def bop (op : Nat) (a b : Nat) : Nat := if op = 0 then a &&& b else if op = 1 then a ||| b else a ^^^ b
def both (x y : Int) (i : Nat) : Int := x / 2 ^ i % 2 + y / 2 ^ i % 2
theorem cast_bit (a i : Nat) : ((a : Nat) : Int) / 2 ^ i % 2 = ((a / 2 ^ i % 2 : Nat) : Int) := by
  rw [Int.natCast_emod, Int.natCast_ediv, pow_cast]; rfl
theorem hit_bit (op a b i : Nat) : hit op (both (a : Int) (b : Int) i) = (bop op a b).testBit i := by
  unfold hit both bop
  rw [cast_bit, cast_bit, bit_of, bit_of]
  by_cases h0 : op = 0
  · simp only [h0, if_true]
    rw [Nat.testBit_and]
    cases a.testBit i <;> cases b.testBit i <;> simp
  · by_cases h1 : op = 1
    · subst h1
      rw [if_neg h0, if_neg h0, if_pos rfl, if_pos rfl, Nat.testBit_or]
      cases a.testBit i <;> cases b.testBit i <;> simp
    · rw [if_neg h0, if_neg h0, if_neg h1, if_neg h1, Nat.testBit_xor]
      cases a.testBit i <;> cases b.testBit i <;> simp
theorem hit_step (op a b i : Nat) : ((bop op a b % 2 ^ (i + 1) : Nat) : Int) = if hit op (both (a : Int) (b : Int) i) = true then ((bop op a b % 2 ^ i : Nat) : Int) + 2 ^ i else ((bop op a b % 2 ^ i : Nat) : Int) := by
  rw [bits_step, bit_of, hit_bit]
  by_cases h : (bop op a b).testBit i = true
  · rw [if_pos h, if_pos h, Int.natCast_add, Nat.one_mul, pow_cast]
  · rw [if_neg h, if_neg h, Nat.zero_mul, Nat.add_zero]
theorem bop_lt {op a b W : Nat} (ha : a < 2 ^ W) (hb : b < 2 ^ W) : bop op a b < 2 ^ W := by
  unfold bop
  split
  · exact Nat.and_lt_two_pow a hb
  · split
    · exact Nat.or_lt_two_pow ha hb
    · exact Nat.xor_lt_two_pow ha hb
theorem bop_mod {op a b W : Nat} (ha : a < 2 ^ W) (hb : b < 2 ^ W) : bop op a b % 2 ^ W = bop op a b := Nat.mod_eq_of_lt (bop_lt ha hb)
theorem and_cast (a b : Nat) : Builtin.bitAnd (a : Int) (b : Int) = ((bop 0 a b : Nat) : Int) := by
  rw [bitAnd_pp (Int.natCast_nonneg _) (Int.natCast_nonneg _)]; rfl
theorem or_cast (a b : Nat) : Builtin.bitOr (a : Int) (b : Int) = ((bop 1 a b : Nat) : Int) := by
  rw [Bits.bitOr_pp (Int.natCast_nonneg _) (Int.natCast_nonneg _)]; rfl
theorem xor_cast (a b : Nat) : Builtin.bitXor (a : Int) (b : Int) = ((bop 2 a b : Nat) : Int) := by
  rw [Bits.bitXor_pp (Int.natCast_nonneg _) (Int.natCast_nonneg _)]; rfl
theorem not_cast {a W : Nat} (h : a < 2 ^ W) : Builtin.bitXor (a : Int) (2 ^ W - 1) = 2 ^ W - 1 - (a : Int) := by
  rw [bitXor_and, kbt_mask, Int.emod_eq_of_lt (Int.natCast_nonneg _) (by rw [← pow_cast]; exact Int.ofNat_lt.mpr h)]
  omega
end K0

set_option Elab.async false
set_option linter.all false
set_option maxRecDepth 100000
set_option maxHeartbeats 4000000
namespace K0
open PySem L2
def tp (i : Nat) : Stmt := PySem.Challenge.pw_leasttiles_k04_uses_and_ways.main.body.getD i (.Pass ⟨0, 0, 0, 0⟩)
abbrev sNms : Stmt := tp 1
abbrev sSucc : Stmt := tp 3
abbrev sMark : Stmt := tp 4
abbrev sUses : Stmt := tp 5
abbrev sItems : Stmt := tp 6
abbrev sUS : Stmt := tp 7
abbrev sLive : Stmt := tp 8
abbrev sDraw : Stmt := tp 10
abbrev sTake : Stmt := tp 11
abbrev sLTop : Stmt := tp 12
abbrev sPairs : Stmt := tp 14
abbrev sWord : Stmt := tp 15
abbrev sExpr : Stmt := tp 16
abbrev sStmt : Stmt := tp 17
abbrev sFun : Stmt := tp 18
abbrev sNames : Stmt := tp 23
abbrev sEnds : Stmt := tp 24
abbrev sFirst : Stmt := tp 25
abbrev sIsLive : Stmt := tp 26
abbrev sLaw : Stmt := tp 27
end K0

set_option Elab.async false
set_option linter.all false
set_option maxRecDepth 100000
set_option maxHeartbeats 4000000
namespace K0
open PySem L2
/-! the answers -/
abbrev G := Nat → Nat → Nat → Int
def gAdd : G := fun W a b => ((a : Int) + b) % 2 ^ W
def gSub : G := fun W a b => ((a : Int) - b) % 2 ^ W
def gMul : G := fun W a b => ((a : Int) * b) % 2 ^ W
def gAnd : G := fun _ a b => ((bop 0 a b : Nat) : Int)
def gOr : G := fun _ a b => ((bop 1 a b : Nat) : Int)
def gXor : G := fun _ a b => ((bop 2 a b : Nat) : Int)
def gShl : G := fun W a b => if (W : Int) ≤ b then 0 else ((a : Int) * 2 ^ b) % 2 ^ W
def gShr : G := fun W a b => if (W : Int) ≤ b then 0 else (a : Int) / 2 ^ b
def gLess : G := fun _ a b => if (a : Int) < b then 1 else 0
def gEqual : G := fun _ a b => if (a : Int) = b then 1 else 0
def gNot : G := fun W a _ => 2 ^ W - 1 - (a : Int)
def gNeg : G := fun W a _ => (-(a : Int)) % 2 ^ W
def ops : List (Str × G) := [("add", gAdd), ("sub", gSub), ("mul", gMul), ("and", gAnd), ("or", gOr), ("xor", gXor), ("shl", gShl), ("shr", gShr), ("less", gLess), ("equal", gEqual), ("not", gNot), ("neg", gNeg)]
theorem ops_nd : (ops.map (·.1)).Nodup := by decide +kernel
theorem pick {op op' : Str} {g g' : G} (h : (op, g) ∈ ops) (k : Nat) (hk : ops[k]? = some (op', g')) (e : op = op') : g = g' := by
  subst e
  obtain ⟨i, hi⟩ := List.mem_iff_getElem?.mp h
  have e1 : (ops.map (·.1))[i]? = some op := by rw [List.getElem?_map, hi]; rfl
  have e2 : (ops.map (·.1))[k]? = some op := by rw [List.getElem?_map, hk]; rfl
  have hik : i = k := nodup_ix ops_nd e1 e2
  subst hik
  rw [hi] at hk
  exact (Prod.mk.inj (Option.some.inj hk)).2
/-! promises -/
def spTop : Sp := fun vs H Q _ => ∃ W : Nat, vs = [.int W] ∧ W ≤ 16 ∧ Q (.int (2 ^ W - 1)) H
def spAct (g : G) : Sp := fun vs H Q _ => ∃ W a b : Nat, vs = [.int W, .int a, .int b] ∧ 1 ≤ W ∧ W ≤ 16 ∧ a < 2 ^ W ∧ b < 2 ^ W ∧ Q (.int (g W a b)) H
section
variable {P : Program} {w : World} {K : PySem.W.Frag} {mg : Str → Option Value} {base : Heap}
theorem scLTop : FnScope ["w"] ["w"] (defScope sLTop) := ⟨rfl, rfl, rfl, by decide +kernel, rfl, by decide +kernel, by decide +kernel⟩
theorem ok_ltop {f : Addr} {fd : FuncData} (F : Fun K "_law_top" "_law_top" sLTop f fd) : FnOk P w K mg base CX0 1 f fd ["w"] spTop := by
  refine F.ok scLTop (fun vs H Q E h => ?_) (fun cdv A outer s H vs Q E hr h => ?_)
  · obtain ⟨W, rfl, _⟩ := h
    rfl
  · obtain ⟨W, rfl, hW, q⟩ := h
    refine ⟨_, pss_one (ps_ret (pe_op op_sub (pe_op op_shl pe_int (pv 0)) pe_int)), ?_⟩
    refine ⟨_, rfl, 1, W, rfl, rfl, ⟨by omega, by omega, by decide⟩, _, _, rfl, rfl, ?_⟩
    rw [one_pow]
    exact q
theorem below {a W : Nat} (h : a < 2 ^ W) (hW : W ≤ 16) : (a : Int) < 65536 := by
  have h1 : (2 : Nat) ^ W ≤ 2 ^ 16 := Nat.pow_le_pow_right (by decide) hW
  have h2 : (2 : Nat) ^ 16 = 65536 := by decide
  omega
end
end K0

set_option Elab.async false
set_option linter.all false
set_option maxRecDepth 100000
set_option maxHeartbeats 4000000
namespace K0
open PySem L2
theorem and_val {A B : TT} {σ : St} {H : Hp} {cA cB : Bool} (hA : ∀ Q : Bool → Hp → Prop, Q cA H → A σ H Q) (hB : ∀ Q : Bool → Hp → Prop, Q cB H → B σ H Q) : ∀ Q : Bool → Hp → Prop, Q (cA && cB) H → tAnd A B σ H Q := by
  intro Q q
  refine hA _ ?_
  cases cA with
  | true => exact iteT (hB _ q)
  | false => exact iteF q
theorem or_val {A B : TT} {σ : St} {H : Hp} {cA cB : Bool} (hA : ∀ Q : Bool → Hp → Prop, Q cA H → A σ H Q) (hB : ∀ Q : Bool → Hp → Prop, Q cB H → B σ H Q) : ∀ Q : Bool → Hp → Prop, Q (cA || cB) H → tOr A B σ H Q := by
  intro Q q
  refine hA _ ?_
  cases cA with
  | true => exact iteT q
  | false => exact iteF (hB _ q)
theorem str_of {a b : Str} (e : decide (V.str a = V.str b) = true) : a = b := V.str.inj (of_decide_eq_true e)
theorem str_ne {a b : Str} (e : ¬ decide (V.str a = V.str b) = true) : a ≠ b := fun z => e (decide_eq_true (by rw [z]))
/-- the three ops that go bit by bit -/
def Bitwise (op : Str) (c : Nat) : Prop := (op = "and" ∧ c = 0) ∨ (op = "or" ∧ c = 1) ∨ (op = "xor" ∧ c = 2)
theorem n1 : ¬ ("and" : Str) = "or" := by decide +kernel
theorem n2 : ¬ ("and" : Str) = "xor" := by decide +kernel
theorem n3 : ¬ ("or" : Str) = "xor" := by decide +kernel
theorem dS {a b : Str} (h : ¬ a = b) : decide (V.str a = V.str b) = false := decide_eq_false fun z => h (V.str.inj z)
theorem dT {a : Str} : decide (V.str a = V.str a) = true := decide_eq_true rfl
theorem dI {i j : Int} : decide (V.int i = V.int j) = (i == j) := dec_int
theorem hit_val {op : Str} {c : Nat} (h : Bitwise op c) (z : Int) :
    ((decide (V.str op = V.str "and") && decide (V.int z = V.int 2)) || ((decide (V.str op = V.str "or") && decide ((0 : Int) < z)) || (decide (V.str op = V.str "xor") && decide (V.int z = V.int 1)))) = hit c z := by
  rcases h with ⟨rfl, rfl⟩ | ⟨rfl, rfl⟩ | ⟨rfl, rfl⟩
  · rw [dT, dS n1, dS n2, dI]
    simp [hit]
  · rw [dT, dS n3, dS (fun q => n1 q.symm)]
    simp [hit]
  · rw [dT, dS (fun q => n2 q.symm), dS (fun q => n3 q.symm), dI]
    simp [hit]
    rfl
theorem bit_ops {op : Str} {g : G} (h : (op, g) ∈ ops) (e : inV (.str op) [.str "and", .str "or", .str "xor"] = true) : ∃ c, Bitwise op c ∧ g = fun _ a b => ((bop c a b : Nat) : Int) := by
  have e' : op = "and" ∨ op = "or" ∨ op = "xor" := by
    have q : (("and" : Str) == op || (("or" : Str) == op || (("xor" : Str) == op || false))) = true := e
    simp only [Bool.or_eq_true, beq_iff_eq, Bool.false_eq_true, or_false] at q
    rcases q with q | q | q
    · exact .inl q.symm
    · exact .inr (.inl q.symm)
    · exact .inr (.inr q.symm)
  rcases e' with q | q | q
  · exact ⟨0, .inl ⟨q, rfl⟩, pick h 3 rfl q⟩
  · exact ⟨1, .inr (.inl ⟨q, rfl⟩), pick h 4 rfl q⟩
  · exact ⟨2, .inr (.inr ⟨q, rfl⟩), pick h 5 rfl q⟩
/-! arithmetic of the answers -/
theorem wlt {a W : Nat} (h : a < 2 ^ W) : (a : Int) < 2 ^ W := by
  rw [← pow_cast]
  exact Int.ofNat_lt.mpr h
theorem add_lo {W a b : Nat} (h : (a : Int) + b < 2 ^ W) : gAdd W a b = (a : Int) + b := Int.emod_eq_of_lt (by omega) h
theorem add_hi {W a b : Nat} (ha : a < 2 ^ W) (hb : b < 2 ^ W) (h : ¬ (a : Int) + b < 2 ^ W) : gAdd W a b = (a : Int) + b - 2 ^ W := by
  have h1 := wlt ha
  have h2 := wlt hb
  exact wrap (by omega) (by omega)
theorem sub_hi {W a b : Nat} (ha : a < 2 ^ W) (h : (b : Int) ≤ a) : gSub W a b = (a : Int) - b := by
  have h1 := wlt ha
  exact Int.emod_eq_of_lt (by omega) (by omega)
theorem sub_lo {W a b : Nat} (hb : b < 2 ^ W) (h : ¬ (b : Int) ≤ a) : gSub W a b = (a : Int) - b + 2 ^ W := by
  have h2 := wlt hb
  exact wrap' (by omega) (by omega)
theorem neg_0 {W a : Nat} (h : (a : Int) = 0) (b : Nat) : gNeg W a b = 0 := by
  unfold gNeg
  rw [h]
  exact Int.zero_emod _
theorem neg_1 {W a : Nat} (ha : a < 2 ^ W) (h : ¬ (a : Int) = 0) (b : Nat) : gNeg W a b = 2 ^ W - (a : Int) := by
  have h1 := wlt ha
  have e : gNeg W a b = -(a : Int) + 2 ^ W := wrap' (by omega) (by omega)
  omega
def spLC : Sp := fun vs H Q _ => ∃ (op : Str) (g : G) (W a b : Nat), vs = [.str op, .int W, .int a, .int b] ∧ (op, g) ∈ ops ∧ 1 ≤ W ∧ W ≤ 16 ∧ a < 2 ^ W ∧ b < 2 ^ W ∧ ∀ H', Same H H' → Q (.int (g W a b)) H'
theorem last_neg {op : Str} {g : G} (h : (op, g) ∈ ops) (h0 : op ≠ "add") (h1 : op ≠ "sub") (h2 : op ≠ "mul") (h3 : ¬ inV (.str op) [.str "and", .str "or", .str "xor"] = true) (h6 : op ≠ "shl") (h7 : op ≠ "shr") (h8 : op ≠ "less") (h9 : op ≠ "equal") (h10 : op ≠ "not") : g = gNeg := by
  have e : op = "neg" := by
    have q := List.mem_map_of_mem (f := (·.1)) h
    have q2 : op ∈ (["add", "sub", "mul", "and", "or", "xor", "shl", "shr", "less", "equal", "not", "neg"] : List Str) := q
    simp only [List.mem_cons, List.not_mem_nil, or_false] at q2
    rcases q2 with q | q | q | q | q | q | q | q | q | q | q | q
    · exact absurd q h0
    · exact absurd q h1
    · exact absurd q h2
    · subst q; exact absurd (by decide +kernel) h3
    · subst q; exact absurd (by decide +kernel) h3
    · subst q; exact absurd (by decide +kernel) h3
    · exact absurd q h6
    · exact absurd q h7
    · exact absurd q h8
    · exact absurd q h9
    · exact absurd q h10
    · exact q
  exact pick h 11 rfl e
end K0

set_option Elab.async false
set_option linter.all false
set_option maxRecDepth 100000
set_option maxHeartbeats 400000
namespace K0
open PySem L2
theorem gName_go {i : Nat} {v : V} {σ : St} {H : Hp} {Q : St → Hp → Prop} (h : Q (σ.set i (some v)) H) : gName i v σ H Q := h
theorem nx_go {t : St → Hp → Prop} {r : VK} {b c : St → Hp → Prop} {σ : St} {H : Hp} (h : t σ H) : ({ nx := t, rt := r, bk := b, ct := c } : Ends).nx σ H := h
theorem tIfS_val {c : TT} {t u : TS} {D : Ends} {σ : St} {H : Hp} {b : Bool} (hc : ∀ Q : Bool → Hp → Prop, Q b H → c σ H Q) (h : if b = true then t D σ H else u D σ H) : tIfS c t u D σ H := hc _ h
theorem op_shl1 {X : Cx} : OpR X (binaryOp .LShift) (fun x y H Q => ∃ W : Nat, x = .int 1 ∧ y = .int W ∧ W ≤ 16 ∧ Q (.int (2 ^ W)) H) := by
  intro pins s σ H x y v u Q I rx ry h
  obtain ⟨W, e1, e2, hW, q⟩ := h
  refine op_shl pins s σ H x y v u Q I rx ry ⟨1, W, e1, e2, ⟨by omega, by omega, by decide⟩, ?_⟩
  show Q (.int (1 * 2 ^ ((W : Int)).toNat)) H
  rw [one_pow]
  exact q
end K0
set_option Elab.async false
set_option linter.all false
set_option maxRecDepth 100000
set_option maxHeartbeats 1000000
namespace K0
open PySem L2
/-- all but what stands at d is as it was -/
def Keep (d : Addr) (H H' : Hp) : Prop := ∀ b o, H b = some o → b ≠ d → H' b = some o
theorem Keep.refl (d : Addr) (H : Hp) : Keep d H H := fun _ _ e _ => e
theorem Keep.trans {d : Addr} {H H1 H2 : Hp} (a : Keep d H H1) (b : Keep d H1 H2) : Keep d H H2 := fun c o e n => b c o (a c o e n) n
theorem Keep.of {d : Addr} {H H1 : Hp} (s : Same H H1) : Keep d H H1 := fun c o e _ => s c o e
theorem Keep.put {d : Addr} {H : Hp} {o : HO} : Keep d H (upd H d o) := fun b u e n => by
  rw [upd_ne n]
  exact e
theorem same_new {H : Hp} {p : Addr} {o : HO} (h : H p = none) : Same H (upd H p o) := fun b x e => by
  rw [upd_ne (ne_of_none e h)]
  exact e
/-- the row of draws -/
structure Drw (H : Hp) (d c : Addr) (ns : List Int) (k l s : Int) : Prop where
  at_ : H d = some (.lst [.ref c, .int k, .int l, .int s])
  cells : H c = some (.lst (ns.map V.int))
  ne : c ≠ d
  k0 : -1 ≤ k
  l0 : 0 ≤ l
  s0 : 0 ≤ s
  s1 : s < 2147483648
  pos : ∀ n ∈ ns, 0 ≤ n
theorem Drw.store {H : Hp} {d c : Addr} {ns : List Int} {k l s k' l' s' : Int} (D : Drw H d c ns k l s) (hk : -1 ≤ k') (hl : 0 ≤ l') (h0 : 0 ≤ s') (h1 : s' < 2147483648) : Drw (upd H d (.lst [.ref c, .int k', .int l', .int s'])) d c ns k' l' s' :=
  ⟨upd_same, by rw [upd_ne D.ne]; exact D.cells, D.ne, hk, hl, h0, h1, D.pos⟩
theorem Drw.same {H H' : Hp} {d c : Addr} {ns : List Int} {k l s : Int} (D : Drw H d c ns k l s) (e : Same H H') : Drw H' d c ns k l s := ⟨e _ _ D.at_, e _ _ D.cells, D.ne, D.k0, D.l0, D.s0, D.s1, D.pos⟩
def Drd (H : Hp) (d c : Addr) (ns : List Int) : Prop := ∃ k l s, Drw H d c ns k l s
theorem Drd.same {H H' : Hp} {d c : Addr} {ns : List Int} (D : Drd H d c ns) (e : Same H H') : Drd H' d c ns := by
  obtain ⟨k, l, s, D⟩ := D
  exact ⟨k, l, s, D.same e⟩
def spTake : Sp := fun vs H Q _ => ∃ (d c : Addr) (ns : List Int) (m : Int), vs = [.ref d, .int m] ∧ Drd H d c ns ∧ 1 ≤ m ∧ m ≤ 65536 ∧ ∀ (z : Nat) H', (z : Int) < m → Drd H' d c ns → Keep d H H' → Q (.int z) H'
section
variable {P : Program} {w : World} {K : PySem.W.Frag} {mg : Str → Option Value} {base : Heap}
theorem scTake : FnScope ["draw", "many", "found"] ["draw", "many"] (defScope sTake) := ⟨rfl, rfl, rfl, by decide +kernel, rfl, by decide +kernel, by decide +kernel⟩
theorem ok_take {f : Addr} {fd : FuncData} (F : Fun K "_law_take" "_law_take" sTake f fd) (ml : mg "len" = none) (mi : mg "int" = none) : FnOk P w K mg base CX0 1 f fd ["draw", "many"] spTake := by
  refine F.ok scTake (fun vs H Q E h => ?_) (fun cdv A outer s H vs Q E hr h => ?_)
  · obtain ⟨d, c, ns, m, rfl, _⟩ := h
    rfl
  · obtain ⟨d, c, ns, m, rfl, D, m1, m2, q⟩ := h
    have nd := scTake.nd
    refine ⟨_, C8.pss_cut (ps_if (pt_cmpR op_eq (pe_ix ix_list (pv 0) pe_int (fun _ _ => rfl)) pe_int (nomark _))
        (pss_cons (ps_asg (pe_op op_add (pe_ix ix_list (pv 0) pe_int (fun _ _ => rfl)) pe_int) (pg_sub (pv 0) pe_int set_list))
        (C8.pss_cut (ps_if (pt_cmpR op_lt (pe_ix ix_list (pv 0) pe_int (fun _ _ => rfl)) (pe_callB call_len_seq (by rfl) ml PySem.boot_len (pa_cons (pe_ix ix_list (pv 0) pe_int (fun _ _ => rfl)) pa_nil)) (nomark _))
            (pss_one (ps_asg (pe_ix ix_list (pe_ix ix_list (pv 0) pe_int (fun _ _ => rfl)) (pe_ix ix_list (pv 0) pe_int (fun _ _ => rfl)) (fun _ _ => rfl)) (pg_sub (pv 0) pe_int set_list))) pss_nil)
        (pss_one (ps_if (pt_cmpR op_eq (pe_ix ix_list (pv 0) pe_int (fun _ _ => rfl)) pe_int (nomark _))
            (pss_cons (ps_asg (pe_op op_mod (pe_callTy call_int1 (by rfl) mi (by decide +kernel) (pa_cons (pe_op op_add (pe_op op_mul (pe_ix ix_list (pv 0) pe_int (fun _ _ => rfl)) pe_int) pe_int) pa_nil)) pe_int) (pg_sub (pv 0) pe_int set_list))
            (pss_one (ps_asg (pe_ix ix_list (pv 0) pe_int (fun _ _ => rfl)) (pg_sub (pv 0) pe_int set_list)))) pss_nil)))) pss_nil)
      (pss_cons (ps_set (i := 2) nd rfl (.inl rfl) (pe_op op_mod (pe_callTy call_int1 (by rfl) mi (by decide +kernel) (pa_cons (pe_ix ix_list (pv 0) pe_int (fun _ _ => rfl)) pa_nil)) (pv 1)))
      (pss_cons (ps_asg (pe_op op_fdiv (pe_ix ix_list (pv 0) pe_int (fun _ _ => rfl)) (pv 1)) (pg_sub (pv 0) pe_int set_list))
      (pss_one (ps_ret (pv 2))))), ?_⟩
    refine ⟨fun σ' H' => σ' = [some (.ref d), some (.int m), none] ∧ Drd H' d c ns ∧ Keep d H H', ?_, ?_⟩
    · obtain ⟨k, l, s, D⟩ := D
      refine ⟨_, rfl, d, _, 2, _, rfl, rfl, .of D.at_, atI_nat (j := 2) rfl, rfl, _, rfl, ite2 (fun e => ?_) (fun e => ?_)⟩
      · -- draw[1] = draw[1] + 1
        have D1 : Drw (upd H d (.lst [.ref c, .int (k + 1), .int l, .int s])) d c ns (k + 1) l s := D.store (by have := D.k0; omega) D.l0 D.s0 D.s1
        refine ⟨_, rfl, d, _, 1, _, rfl, rfl, .of D.at_, atI_nat (j := 1) rfl, _, _, rfl, rfl, _, rfl, d, _, 1, 1, rfl, rfl, D.at_, rfl, ?_⟩
        refine ⟨fun σ' H' => σ' = [some (.ref d), some (.int m), none] ∧ Drd H' d c ns ∧ Keep d H H', ?_, ?_⟩
        · refine ⟨_, rfl, d, _, 1, _, rfl, rfl, .of D1.at_, atI_nat (j := 1) rfl, _, rfl, d, _, 0, _, rfl, rfl, .of D1.at_, atI_nat (j := 0) rfl, c, _, rfl, .inl (.of D1.cells), _, _, rfl, rfl, _, rfl, ite2 (fun e => ?_) (fun e => ?_)⟩
          · have hlt := of_decide_eq_true e
            rw [List.length_map] at hlt
            have hk := D1.k0
            have hk0 := D.k0
            obtain ⟨j, hj⟩ : ∃ j : Nat, k + 1 = (j : Int) := ⟨(k + 1).toNat, by omega⟩
            have hjl : j < ns.length := by omega
            have g : (ns.map V.int)[j]? = some (.int ns[j]) := by
              rw [List.getElem?_map, List.getElem?_eq_getElem hjl]
              rfl
            refine ⟨_, rfl, d, _, 0, _, rfl, rfl, .of D1.at_, atI_nat (j := 0) rfl, _, rfl, d, _, 1, _, rfl, rfl, .of D1.at_, atI_nat (j := 1) rfl, c, _, k + 1, _, rfl, rfl, .of D1.cells, at_of hj g, _, rfl, d, _, 2, 2, rfl, rfl, D1.at_, rfl, rfl, ⟨_, _, _, D1.store D1.k0 (D.pos _ (List.getElem_mem hjl)) D1.s0 D1.s1⟩, Keep.put.trans Keep.put⟩
          · exact ⟨rfl, ⟨_, _, _, D1⟩, Keep.put⟩
        · rintro σ' H' ⟨rfl, ⟨k2, l2, s2, D2⟩, kp⟩
          refine ⟨_, rfl, d, _, 2, _, rfl, rfl, .of D2.at_, atI_nat (j := 2) rfl, rfl, _, rfl, ite2 (fun e => ?_) (fun e => ?_)⟩
          · have hs0 := D2.s0
            have hs1 := D2.s1
            have r0 : 0 ≤ (s2 * 48271 + 11) % 2147483647 := Int.emod_nonneg _ (by decide)
            have r1 : (s2 * 48271 + 11) % 2147483647 < 2147483647 := Int.emod_lt_of_pos _ (by decide)
            have D3 : Drw (upd H' d (.lst [.ref c, .int k2, .int l2, .int ((s2 * 48271 + 11) % 2147483647)])) d c ns k2 l2 ((s2 * 48271 + 11) % 2147483647) := D2.store D2.k0 D2.l0 r0 (by omega)
            refine ⟨_, rfl, d, _, 3, _, rfl, rfl, .of D2.at_, atI_nat (j := 3) rfl, _, _, rfl, rfl, .inl ⟨by omega, by omega⟩, _, _, rfl, rfl, .inl ⟨_, rfl, ?_⟩⟩
            refine ⟨_, _, rfl, rfl, (by show (0 : Int) < 2147483647; decide), _, rfl, d, _, 3, 3, rfl, rfl, D2.at_, rfl, ?_⟩
            refine ⟨_, rfl, d, _, 3, _, rfl, rfl, .of D3.at_, atI_nat (j := 3) rfl, _, rfl, d, _, 2, 2, rfl, rfl, D3.at_, rfl, rfl, ⟨_, _, _, D3.store D3.k0 r0 r0 (by omega)⟩, (kp.trans Keep.put).trans Keep.put⟩
          · exact ⟨rfl, ⟨_, _, _, D2⟩, kp⟩
      · exact ⟨rfl, ⟨k, l, s, D⟩, Keep.refl _ _⟩
    · rintro σ' H' ⟨rfl, ⟨k, l, s, D⟩, kp⟩
      have hl := D.l0
      have r0 : 0 ≤ l % m := Int.emod_nonneg _ (by omega)
      have r1 : l % m < m := Int.emod_lt_of_pos _ (by omega)
      have q0 : 0 ≤ l / m := Int.ediv_nonneg hl (by omega)
      refine ⟨_, rfl, d, _, 2, _, rfl, rfl, .of D.at_, atI_nat (j := 2) rfl, .inl ⟨_, rfl, _, rfl, _, _, rfl, rfl, (by show (0 : Int) < m; omega), ?_⟩⟩
      refine ⟨_, rfl, d, _, 2, _, rfl, rfl, .of D.at_, atI_nat (j := 2) rfl, _, rfl, _, _, rfl, rfl, ⟨by omega, by omega⟩, _, rfl, d, _, 2, 2, rfl, rfl, D.at_, rfl, ?_⟩
      refine ⟨_, rfl, ?_⟩
      have ez : ((l % m).toNat : Int) = l % m := Int.toNat_of_nonneg r0
      have qq := q (l % m).toNat (upd H' d (.lst [.ref c, .int k, .int (l / m), .int s])) (by omega) ⟨_, _, _, D.store D.k0 q0 D.s0 D.s1⟩ (kp.trans Keep.put)
      rw [ez] at qq
      exact qq
end
end K0

set_option Elab.async false
set_option linter.all false
set_option maxRecDepth 100000
set_option maxHeartbeats 1000000
namespace K0
open PySem L2
def ten : List V := [.str "add", .str "sub", .str "mul", .str "and", .str "or", .str "xor", .str "shl", .str "shr", .str "less", .str "equal"]
def spPairs : Sp := fun vs H Q _ => vs = [] ∧ ∀ p, H p = none → Q (.ref p) (upd H p (.lst ten))
def spWord : Sp := fun vs H Q _ => ∃ (d c : Addr) (ns : List Int) (W : Nat), vs = [.ref d, .int W] ∧ Drd H d c ns ∧ 1 ≤ W ∧ W ≤ 16 ∧ ∀ (z : Nat) H', z < 2 ^ W → Drd H' d c ns → Keep d H H' → Q (.int z) H'
def spDraw (K : PySem.W.Frag) : Sp := fun vs H Q _ => ∃ (a : Addr) (ns : List Int), vs = [.ref a] ∧ SqL K H a (ns.map V.int) ∧ ns.length ≤ 63 ∧ ∀ d c ms H', Drd H' d c ms → Same H H' → H d = none → Q (.ref d) H'
/-- a def as it is called: its promise, its name, its parameters -/
structure Got (P : Program) (w : World) (K : PySem.W.Frag) (mg : Str → Option Value) (base : Heap) (k : Nat) (x : Str) (ps : List Str) (sp : Sp) : Prop where
  ex : ∃ (f : Addr) (fd : FuncData), FnOk P w K mg base CX0 k f fd ps sp ∧ mg x = some (.ref f) ∧ PySem.W.keepIn K (.ref f) = true ∧ Binds K fd ps []
section
variable {P : Program} {w : World} {K : PySem.W.Frag} {mg : Str → Option Value} {base : Heap}
theorem scPairs : FnScope [] [] (defScope sPairs) := ⟨rfl, rfl, rfl, by decide +kernel, rfl, by decide +kernel, by decide +kernel⟩
theorem ok_pairs {f : Addr} {fd : FuncData} (F : Fun K "_law_pairs" "_law_pairs" sPairs f fd) : FnOk P w K mg base CX0 1 f fd [] spPairs := by
  refine F.ok scPairs (fun vs H Q E h => ?_) (fun cdv A outer s H vs Q E hr h => ?_)
  · obtain ⟨rfl, _⟩ := h
    rfl
  · obtain ⟨rfl, q⟩ := h
    refine ⟨_, pss_one (ps_ret (pe_lst (pa_cons pe_str (pa_cons pe_str (pa_cons pe_str (pa_cons pe_str (pa_cons pe_str (pa_cons pe_str (pa_cons pe_str (pa_cons pe_str (pa_cons pe_str (pa_cons pe_str pa_nil)))))))))))), ?_⟩
    exact ⟨(by show 10 ≤ sizeLine; decide), q⟩
theorem scWord : FnScope ["draw", "w", "k"] ["draw", "w"] (defScope sWord) := ⟨rfl, rfl, rfl, by decide +kernel, rfl, by decide +kernel, by decide +kernel⟩
theorem ok_word {f : Addr} {fd : FuncData} (F : Fun K "_law_word" "_law_word" sWord f fd) (mi : mg "int" = none) (mm : mg "min" = none)
    (GT : Got P w K mg base 1 "_law_take" ["draw", "many"] spTake) (GL : Got P w K mg base 1 "_law_top" ["w"] spTop) : FnOk P w K mg base CX0 2 f fd ["draw", "w"] spWord := by
  obtain ⟨ft, fdt, GT, mgT, kT, bT⟩ := GT.ex
  obtain ⟨fl, fdl, GL, mgL, kL, bL⟩ := GL.ex
  refine F.ok scWord (fun vs H Q E h => ?_) (fun cdv A outer s H vs Q E hr h => ?_)
  · obtain ⟨d, c, ns, W, rfl, _⟩ := h
    rfl
  · obtain ⟨d, c, ns, W, rfl, D, h1, hW, q⟩ := h
    have nd := scWord.nd
    have lp := pow_pos W
    have l16 := pow_le16 hW
    have ep := pow_cast W
    have e2 : 2 ≤ 2 ^ W := by
      have := Nat.pow_le_pow_right (show 0 < 2 by decide) h1
      exact this
    refine ⟨_, pss_cons (ps_set (i := 2) nd rfl (.inl rfl) (pe_call GT hr (by rfl) mgT kT bT .nil pass0 (pa_cons (pv 0) (pa_cons pe_int pa_nil))))
      (pss_cons (ps_if (pt_cmpR op_lt (pv 2) pe_int (nomark _))
        (pss_one (ps_ret (pe_callB (call_min2 rfl) (by rfl) mm PyProof.Rows.boot_min (pa_cons (pe_ix ix_list (pe_lst (pa_cons pe_int (pa_cons pe_int (pa_cons pe_int pa_nil)))) (pv 2) (fun _ _ => rfl)) (pa_cons (pe_call GL hr (by rfl) mgL kL bL .nil pass0 (pa_cons (pv 1) pa_nil)) pa_nil))))) pss_nil)
      (pss_cons (ps_if (pt_cmpR op_eq (pv 2) pe_int (nomark _)) (pss_one (ps_ret (pe_call GL hr (by rfl) mgL kL bL .nil pass0 (pa_cons (pv 1) pa_nil)))) pss_nil)
      (pss_one (ps_ret (pe_op op_mod (pe_callTy call_int1 (by rfl) mi (by decide +kernel) (pa_cons (pe_call GT hr (by rfl) mgT kT bT .nil pass0 (pa_cons (pv 0) (pa_cons pe_int pa_nil))) pa_nil)) (pe_op op_shl1 pe_int (pv 1))))))), ?_⟩
    refine ⟨_, rfl, d, c, ns, 6, rfl, D, by decide, by decide, fun k H1 hk D1 kp1 => ?_⟩
    refine ⟨_, rfl, _, _, rfl, rfl, _, rfl, ite2 (fun e => ?_) (fun e => ?_)⟩
    · have e' : (k : Int) < 3 := of_decide_eq_true e
      refine ⟨(by show 3 ≤ sizeLine; decide), fun p hp => ?_⟩
      have s1 : Same H1 (upd H1 p (.lst [.int 0, .int 1, .int 5])) := same_new hp
      obtain ⟨v, hv, hv0⟩ : ∃ v : Nat, ([.int 0, .int 1, .int 5] : List V)[k]? = some (.int (v : Int)) ∧ v ≤ 5 := by
        match k, e' with
        | 0, _ => exact ⟨0, rfl, by decide⟩
        | 1, _ => exact ⟨1, rfl, by decide⟩
        | 2, _ => exact ⟨5, rfl, by decide⟩
        | k + 3, e => omega
      refine ⟨_, rfl, p, _, _, _, rfl, rfl, .of upd_same, atI_nat hv, _, rfl, W, rfl, hW, _, _, rfl, ?_⟩
      by_cases hlt : (2 : Int) ^ W - 1 < v
      · rw [if_pos hlt]
        have := q (2 ^ W - 1) _ (by omega) (D1.same s1) (kp1.trans (Keep.of s1))
        have ez : ((2 ^ W - 1 : Nat) : Int) = 2 ^ W - 1 := by omega
        rw [ez] at this
        exact this
      · rw [if_neg hlt]
        exact q v _ (by omega) (D1.same s1) (kp1.trans (Keep.of s1))
    · refine ⟨_, rfl, rfl, _, rfl, ite2 (fun e => ?_) (fun e => ?_)⟩
      · refine ⟨_, rfl, W, rfl, hW, ?_⟩
        have := q (2 ^ W - 1) _ (by omega) D1 kp1
        have ez : ((2 ^ W - 1 : Nat) : Int) = 2 ^ W - 1 := by omega
        rw [ez] at this
        exact this
      · refine ⟨_, rfl, d, c, ns, 65536, rfl, D1, by decide, by decide, fun z H2 hz D2 kp2 => .inl ⟨_, rfl, _, rfl, W, rfl, rfl, hW, _, _, rfl, rfl, lp, ?_⟩⟩
        have r0 : 0 ≤ (z : Int) % 2 ^ W := Int.emod_nonneg _ (by omega)
        have r1 : (z : Int) % 2 ^ W < 2 ^ W := Int.emod_lt_of_pos _ lp
        have := q ((z : Int) % 2 ^ W).toNat _ (by omega) D2 (kp1.trans kp2)
        rw [Int.toNat_of_nonneg r0] at this
        exact this
theorem scDraw : FnScope ["script", "seed", "cell"] ["script"] (defScope sDraw) := ⟨rfl, rfl, rfl, by decide +kernel, rfl, by decide +kernel, by decide +kernel⟩
theorem tYes_go {σ : St} {H : Hp} {A B : Bool → Hp → Prop} (h : A true H) : tYes σ H (fun b H3 => if b = true then A b H3 else B b H3) := by
  show if true = true then A true H else B true H
  exact iteT h
def abz (i : Int) : Int := if i < 0 then -i else i
theorem abz_nn (i : Int) : 0 ≤ abz i := by
  unfold abz
  split <;> omega
theorem ok_draw {f : Addr} {fd : FuncData} (F : Fun K "_law_draw" "_law_draw" sDraw f fd) (mi : mg "int" = none) (ma : mg "abs" = none) : FnOk P w K mg base CX0 1 f fd ["script"] (spDraw K) := by
  refine F.ok scDraw (fun vs H Q E h => ?_) (fun cdv A outer s H vs Q E hr h => ?_)
  · obtain ⟨a, ns, rfl, _⟩ := h
    rfl
  · obtain ⟨a, ns, rfl, hS, hlen, q⟩ := h
    have nd := scDraw.nd
    refine ⟨_, pss_cons (ps_set (i := 1) nd rfl (.inl rfl) pe_int)
      (pss_cons (ps_for PassesOwn.never rfl (pi_list (pv 0)) (pg_name (i := 2) nd rfl (.inl rfl))
        (pss_one (ps_set (i := 1) nd rfl (.inl rfl) (pe_op op_mod (pe_callTy call_int1 (by rfl) mi (by decide +kernel) (pa_cons (pe_op op_add (pe_op op_add (pe_op op_mul (pv 1) pe_int) (pe_op op_mod (pe_callB call_abs (by rfl) ma PyProof.Rows.boot_abs (pa_cons (pe_callTy call_int1 (by rfl) mi (by decide +kernel) (pa_cons (pv 2) pa_nil)) pa_nil)) pe_int)) pe_int) pa_nil)) pe_int))))
      (pss_one (ps_ret (pe_lst (pa_cons (pe_lc (own := [("cell", 2)]) (g := gName 2) (tt := tYes) rfl nd (pi_list (pv 0)) (blkOk_by (N := ["script", "seed", "cell"]) (sc := defScope sDraw) (by decide +kernel)) (fun _ _ _ _ _ => pg_name (i := 2) nd rfl (.inl rfl)) (fun _ _ _ _ _ => pts_nil)
            (fun _ _ _ _ _ => pe_callB call_abs (by rfl) ma PyProof.Rows.boot_abs (pa_cons (pe_callTy call_int1 (by rfl) mi (by decide +kernel) (pa_cons (pv 2) pa_nil)) pa_nil)))
          (pa_cons (pe_un un_neg pe_int) (pa_cons pe_int (pa_cons (pv 1) pa_nil)))))))), ?_⟩
    refine ⟨_, rfl, a, rfl, ⟨_, hS⟩, for_list (xs := ns.map V.int) (fun i σ H' => ∃ s y2, σ = [some (.ref a), some (.int s), y2] ∧ 0 ≤ s ∧ s < 2147483648 ∧ H' = H) ⟨7, none, rfl, by decide, by decide, rfl⟩ ?_ ?_ ?_⟩
    · rintro i σ H' _ ⟨s, y2, rfl, _, _, rfl⟩
      exact hS
    · rintro i x σ H' hx ⟨s, y2, rfl, s0, s1, rfl⟩
      obtain ⟨n, rfl⟩ : ∃ n, x = V.int n := by
        rw [List.getElem?_map] at hx
        cases e : ns[i]? with
        | none => rw [e] at hx; cases hx
        | some u => rw [e] at hx; exact ⟨u, (Option.some.inj hx).symm⟩
      refine ⟨_, rfl, _, _, rfl, rfl, .inl ⟨by omega, by omega⟩, _, rfl, .inl ⟨_, rfl, _, rfl, _, _, rfl, rfl, (by show (0 : Int) < 65521; decide), _, _, rfl, rfl, _, _, rfl, rfl, .inl ⟨_, rfl, _, _, rfl, rfl, (by show (0 : Int) < 2147483647; decide), ?_⟩⟩⟩
      refine ⟨_, _, rfl, Int.emod_nonneg _ (by decide), ?_, rfl⟩
      have r1 := Int.emod_lt_of_pos (s * 48271 + (if n < 0 then -n else n) % 65521 + 1) (show (0 : Int) < 2147483647 by decide)
      exact Int.lt_trans r1 (by decide)
    · rintro σ H' ⟨s, y2, rfl, s0, s1, rfl⟩
      refine ⟨_, rfl, a, rfl, ⟨_, hS⟩, fun D hD => lc_list (xs := ns.map V.int) (fun i H1 => i ≤ ns.length ∧ H1 D = some (.lst ((ns.take i).map fun n => V.int (abz n))) ∧ Same H' H1) ⟨Nat.zero_le _, upd_same, same_new hD⟩ ?_ ?_ ?_⟩
      · rintro i H1 _ ⟨_, _, sm⟩
        exact sm.seq hS
      · rintro i x H1 hx ⟨hi, hD1, sm⟩
        have hil : i < ns.length := by
          have q := (List.getElem?_eq_some_iff.mp hx).1
          rw [List.length_map] at q
          exact q
        obtain rfl : x = V.int ns[i] := by
          rw [List.getElem?_map, List.getElem?_eq_getElem hil] at hx
          exact (Option.some.inj hx).symm
        refine ⟨rfl, ?_⟩
        refine tYes_go ?_
        refine ⟨_, rfl, .inl ⟨_, rfl, _, rfl, ?_⟩⟩
        refine ⟨_, hD1, ?_, hil, ?_, ?_⟩
        · rw [List.length_map, List.length_take]
          exact small1000 (by omega)
        · rw [upd_same, List.take_add_one, List.getElem?_eq_getElem hil, List.map_append]
          rfl
        · intro b o e
          rw [upd_ne (ne_of_none e hD)]
          exact sm b o e
      · rintro H1 ⟨_, hD1, sm⟩
        rw [List.length_map, List.take_length] at hD1
        refine ⟨_, rfl, _, rfl, (by show 4 ≤ sizeLine; decide), fun p hp => ?_⟩
        have s2 : Same H1 (upd H1 p (.lst [.ref D, .int (-1), .int 0, .int s])) := same_new hp
        have hDp : D ≠ p := ne_of_none hD1 hp
        refine q p D (ns.map abz) _ ⟨-1, 0, s, ⟨upd_same, ?_, hDp, by decide, by decide, s0, s1, ?_⟩⟩ (sm.trans s2) (sm.free hp)
        · rw [upd_ne hDp, hD1, List.map_map]
          rfl
        · intro n hn
          obtain ⟨m, _, rfl⟩ := List.mem_map.mp hn
          exact abz_nn m
end
end K0

set_option Elab.async false
set_option linter.all false
set_option maxRecDepth 100000
set_option maxHeartbeats 1000000
namespace K0
open PySem L2
def spComp : Sp := fun vs H Q _ => ∃ (op : Str) (g : G) (W a b : Nat), vs = [.str op, .int W, .int a, .int b] ∧ (op, g) ∈ ops ∧ 1 ≤ W ∧ W ≤ 16 ∧ a < 2 ^ W ∧ b < 2 ^ W ∧ Q (.int (g W a b)) H
theorem draw_w {t : Nat} (ht : t < 16) {k : Nat} (hk : k < 7) : ∃ W : Nat, ([.int 1, .int 2, .int 7, .int 8, .int 15, .int 16, .int (1 + (t : Int))] : List V)[k]? = some (.int (W : Int)) ∧ 1 ≤ W ∧ W ≤ 16 := by
  match k, hk with
  | 0, _ => exact ⟨1, rfl, by decide, by decide⟩
  | 1, _ => exact ⟨2, rfl, by decide, by decide⟩
  | 2, _ => exact ⟨7, rfl, by decide, by decide⟩
  | 3, _ => exact ⟨8, rfl, by decide, by decide⟩
  | 4, _ => exact ⟨15, rfl, by decide, by decide⟩
  | 5, _ => exact ⟨16, rfl, by decide, by decide⟩
  | 6, _ => exact ⟨1 + t, congrArg (fun z => some (V.int z)) (by omega), by omega, by omega⟩
  | k + 7, h => omega
theorem iteNb {b : Bool} {A B : Prop} (h : b = true) (x : B) : if (!b) = true then A else B := by
  subst h
  exact iteF x
theorem call_minN {X : Cx} (hc : X.calm = true) : CallR X (.builtin "min") (fun xs H Q => ∃ i j b : Int, xs = [.int i, .int j] ∧ (if j < i then j else i) = b ∧ Q (.int b) H) := by
  intro pins s σ H xs us Q I r h
  obtain ⟨i, j, b, e, eb, q⟩ := h
  exact call_min2 hc pins s σ H xs us Q I r ⟨i, j, e, by rw [eb]; exact q⟩
theorem Drd.ne {H : Hp} {d c p : Addr} {ns : List Int} (D : Drd H d c ns) (hp : H p = none) : p ≠ d := by
  obtain ⟨k, l, s, D⟩ := D
  exact (ne_of_none D.at_ hp).symm
end K0
set_option Elab.async false
set_option linter.all false
set_option maxRecDepth 100000
set_option maxHeartbeats 1000000
namespace K0
open PySem L2
def uni : List Nat := [0, 1, 2, 3, 4, 5, 7, 40, 53, 99]
inductive Ex where
  | int (n : Nat)
  | var (v : Nat)
  | load (e : Ex)
  | one (op : Str) (e : Ex)
  | two (op : Str) (e f : Ex)
/-- tuples stay -/
def Tups (H H' : Hp) : Prop := ∀ b xs, H b = some (.tup xs) → H' b = some (.tup xs)
theorem Tups.refl (H : Hp) : Tups H H := fun _ _ e => e
theorem Tups.trans {H H1 H2 : Hp} (a : Tups H H1) (b : Tups H1 H2) : Tups H H2 := fun c o e => b c o (a c o e)
theorem Tups.of {H H1 : Hp} (s : Same H H1) : Tups H H1 := fun c o e => s c _ e
theorem Tups.keep {H H1 : Hp} {d c : Addr} {ns : List Int} (D : Drd H d c ns) (s : Keep d H H1) : Tups H H1 := fun b xs e => by
  obtain ⟨k, l, z, D⟩ := D
  exact s b _ e (ne_of e D.at_ (by intro q; cases q))
def ExAt (H : Hp) : Ex → V → Prop
  | .int n, v => ∃ a, v = .ref a ∧ H a = some (.tup [.str "int", .int (n : Int)])
  | .var x, v => ∃ a, v = .ref a ∧ H a = some (.tup [.str "var", .int (x : Int)])
  | .load e, v => ∃ a u, v = .ref a ∧ H a = some (.tup [.str "load", u]) ∧ ExAt H e u
  | .one op e, v => ∃ a u, v = .ref a ∧ H a = some (.tup [.str op, u]) ∧ ExAt H e u
  | .two op e f, v => ∃ a u y, v = .ref a ∧ H a = some (.tup [.str op, u, y]) ∧ ExAt H e u ∧ ExAt H f y
theorem ExAt.mono {H H' : Hp} (t : Tups H H') : ∀ {e : Ex} {v : V}, ExAt H e v → ExAt H' e v
  | .int n, v, ⟨a, e1, e2⟩ => ⟨a, e1, t _ _ e2⟩
  | .var n, v, ⟨a, e1, e2⟩ => ⟨a, e1, t _ _ e2⟩
  | .load e, v, ⟨a, u, e1, e2, h⟩ => ⟨a, u, e1, t _ _ e2, ExAt.mono t h⟩
  | .one op e, v, ⟨a, u, e1, e2, h⟩ => ⟨a, u, e1, t _ _ e2, ExAt.mono t h⟩
  | .two op e f, v, ⟨a, u, y, e1, e2, h, h2⟩ => ⟨a, u, y, e1, t _ _ e2, ExAt.mono t h, ExAt.mono t h2⟩
def Ex.deep : Ex → Nat
  | .int _ => 1
  | .var _ => 1
  | .load e => e.deep + 1
  | .one _ e => e.deep + 1
  | .two _ e f => max e.deep f.deep + 1
def tenS : List Str := ["add", "sub", "mul", "and", "or", "xor", "shl", "shr", "less", "equal"]
theorem ten_eq : ten = tenS.map V.str := rfl
def EOk (W : Nat) : Ex → Prop
  | .int n => n < 2 ^ W
  | .var x => x ∈ uni
  | .load e => EOk W e
  | .one op e => (op = "not" ∨ op = "neg") ∧ EOk W e
  | .two op e f => op ∈ tenS ∧ EOk W e ∧ EOk W f
def pKv (d : Addr) (W : Nat) (vl : Addr) : List (Key × V) := [(Sum.inr "draw", .ref d), (Sum.inr "width", .int (W : Int)), (Sum.inr "variables", .ref vl)]
theorem kv_draw {d : Addr} {W : Nat} {vl : Addr} : valV (pKv d W vl) (Sum.inr "draw") = some (.ref d) := rfl
theorem kv_width {d : Addr} {W : Nat} {vl : Addr} : valV (pKv d W vl) (Sum.inr "width") = some (.int (W : Int)) := rfl
theorem kv_vars {d : Addr} {W : Nat} {vl : Addr} : valV (pKv d W vl) (Sum.inr "variables") = some (.ref vl) := rfl
/-- what the making of a function goes by -/
structure Mk (H : Hp) (pa d c vl : Addr) (ns : List Int) (W : Nat) (vars : List Nat) : Prop where
  drd : Drd H d c ns
  p : H pa = some (.dK (pKv d W vl))
  vt : H vl = some (.lst (vars.map fun n : Nat => V.int (n : Int)))
  v0 : 0 < vars.length
  v1 : vars.length ≤ 7
  lt : ∀ x ∈ vars, x ∈ uni
  w1 : 1 ≤ W
  w16 : W ≤ 16
theorem Mk.npd {H : Hp} {pa d c vl : Addr} {ns : List Int} {W : Nat} {vars : List Nat} (M : Mk H pa d c vl ns W vars) : pa ≠ d := by
  obtain ⟨k, l, z, D⟩ := M.drd
  exact ne_of M.p D.at_ (by intro q; cases q)
theorem Mk.nvd {H : Hp} {pa d c vl : Addr} {ns : List Int} {W : Nat} {vars : List Nat} (M : Mk H pa d c vl ns W vars) : vl ≠ d := by
  obtain ⟨k, l, z, D⟩ := M.drd
  refine ne_of M.vt D.at_ (fun q => ?_)
  have h := M.v0
  cases vars with
  | nil => exact absurd h (by decide)
  | cons x r =>
    have q1 := HO.lst.inj q
    have q2 := (List.cons.inj q1).1
    cases q2
theorem Mk.next {H H' : Hp} {pa d c vl : Addr} {ns : List Int} {W : Nat} {vars : List Nat} (M : Mk H pa d c vl ns W vars) (D : Drd H' d c ns) (k : Keep d H H') : Mk H' pa d c vl ns W vars :=
  ⟨D, k _ _ M.p M.npd, k _ _ M.vt M.nvd, M.v0, M.v1, M.lt, M.w1, M.w16⟩
theorem Mk.same {H H' : Hp} {pa d c vl : Addr} {ns : List Int} {W : Nat} {vars : List Nat} (M : Mk H pa d c vl ns W vars) (k : Same H H') : Mk H' pa d c vl ns W vars := M.next (M.drd.same k) (Keep.of k)
def spE : Nat → Sp
  | 0 => fun _ _ _ _ => False
  | n + 1 => fun vs H Q _ => ∃ (pa d c vl : Addr) (ns : List Int) (W : Nat) (vars : List Nat), vs = [.ref pa, .int (n : Int)] ∧ Mk H pa d c vl ns W vars ∧
      ∀ (e : Ex) (v : V) (H' : Hp), EOk W e → e.deep ≤ n + 1 → ExAt H' e v → Mk H' pa d c vl ns W vars → Keep d H H' → Q v H'
theorem tSeq_go {t u : TS} {D : Ends} {σ : L2.St} {H : Hp} (h : t { D with nx := u D } σ H) : tSeq t u D σ H := h
theorem deep_le {a b n : Nat} (h1 : a ≤ n) (h2 : b ≤ n) : max a b + 1 ≤ n + 1 := by omega
theorem twelve_ix {k : Nat} (hk : k < 12) : ∃ j : Nat, ([.int 0, .int 0, .int 1, .int 2, .int 3, .int 4, .int 5, .int 6, .int 7, .int 8, .int 9, .int 0] : List V)[k]? = some (.int (j : Int)) ∧ j < 10 := by
  match k, hk with
  | 0, _ => exact ⟨0, rfl, by decide⟩
  | 1, _ => exact ⟨0, rfl, by decide⟩
  | 2, _ => exact ⟨1, rfl, by decide⟩
  | 3, _ => exact ⟨2, rfl, by decide⟩
  | 4, _ => exact ⟨3, rfl, by decide⟩
  | 5, _ => exact ⟨4, rfl, by decide⟩
  | 6, _ => exact ⟨5, rfl, by decide⟩
  | 7, _ => exact ⟨6, rfl, by decide⟩
  | 8, _ => exact ⟨7, rfl, by decide⟩
  | 9, _ => exact ⟨8, rfl, by decide⟩
  | 10, _ => exact ⟨9, rfl, by decide⟩
  | 11, _ => exact ⟨0, rfl, by decide⟩
  | k + 12, h => omega
section
variable {P : Program} {w : World} {K : PySem.W.Frag} {mg : Str → Option Value} {base : Heap}
theorem scExpr : FnScope ["p", "depth", "draw", "k", "op"] ["p", "depth"] (defScope sExpr) := ⟨rfl, rfl, rfl, by decide +kernel, rfl, by decide +kernel, by decide +kernel⟩
theorem ok_expr {f : Addr} {fd : FuncData} (F : Fun K "_law_expression" "_law_expression" sExpr f fd) (mE : mg "_law_expression" = some (.ref f)) (kE : PySem.W.keepIn K (.ref f) = true) (bE : Binds K fd ["p", "depth"] []) (ml : mg "len" = none)
    (GT : Got P w K mg base 1 "_law_take" ["draw", "many"] spTake) (GW : Got P w K mg base 2 "_law_word" ["draw", "w"] spWord) (GP : Got P w K mg base 1 "_law_pairs" [] spPairs) : ∀ n, FnOk P w K mg base CX0 (3 + n) f fd ["p", "depth"] (spE n) := by
  obtain ⟨fT, fdT, GT, mT, kT, bT⟩ := GT.ex
  obtain ⟨fW, fdW, GW, mW, kW, bW⟩ := GW.ex
  obtain ⟨fP, fdP, GP, mP, kP, bP⟩ := GP.ex
  intro n
  induction n with
  | zero => exact (F.ok (k := 2) scExpr (fun vs H Q E h => h.elim) (fun cdv A outer s H vs Q E hr h => h.elim))
  | succ n ih =>
    have e0 : 3 + (n + 1) = (3 + n) + 1 := by omega
    rw [e0]
    refine F.ok scExpr (fun vs H Q E h => ?_) (fun cdv A outer s H vs Q E hr h => ?_)
    · obtain ⟨pa, d, c, vl, ns, W, vars, rfl, _⟩ := h
      rfl
    · obtain ⟨pa, d, c, vl, ns, W, vars, rfl, M, q⟩ := h
      have nd := scExpr.nd
      have hu := hu_of hr
      have hr1 : Room 1 _ := hr.mono (by omega)
      have hr2 : Room 2 _ := hr.mono (by omega)
      refine ⟨_, pss_cons (ps_set (i := 2) nd rfl (.inl rfl) (pe_dget hu (pv 0) pe_str (fun _ _ => rfl)))
        (pss_cons (ps_set (i := 3) nd rfl (.inl rfl) (pe_call GT hr1 (by rfl) mT kT bT .nil pass0 (pa_cons (pv 2) (pa_cons pe_int pa_nil))))
        (pss_cons (ps_if (PW.pt (pw_or (pt_cmpR op_eq (pv 1) pe_int (nomark _)) (pw_or1 (pt_cmpR op_lt (pv 3) pe_int (nomark _)))))
          (pss_cons (ps_if (pt_cmpR op_eq (pe_call GT hr1 (by rfl) mT kT bT .nil pass0 (pa_cons (pv 2) (pa_cons pe_int pa_nil))) pe_int (nomark _))
              (pss_one (ps_ret (pe_tup (pa_cons pe_str (pa_cons (pe_call GW hr2 (by rfl) mW kW bW .nil pass0 (pa_cons (pv 2) (pa_cons (pe_dget hu (pv 0) pe_str (fun _ _ => rfl)) pa_nil))) pa_nil))))) pss_nil)
            (pss_one (ps_ret (pe_tup (pa_cons pe_str (pa_cons (pe_ix ix_list (pe_dget hu (pv 0) pe_str (fun _ _ => rfl)) (pe_call GT hr1 (by rfl) mT kT bT .nil pass0 (pa_cons (pv 2) (pa_cons (pe_callB call_len_seq (by rfl) ml PySem.boot_len (pa_cons (pe_dget hu (pv 0) pe_str (fun _ _ => rfl)) pa_nil)) pa_nil))) (fun _ _ => rfl)) pa_nil)))))) pss_nil)
        (pss_cons (ps_if (pt_cmpR op_eq (pv 3) pe_int (nomark _)) (pss_one (ps_ret (pe_tup (pa_cons pe_str (pa_cons (pe_call ih hr (by rfl) mE kE bE .nil pass0 (pa_cons (pv 0) (pa_cons (pe_op op_sub (pv 1) pe_int) pa_nil))) pa_nil))))) pss_nil)
        (pss_cons (ps_if (pt_cmpR op_eq (pv 3) pe_int (nomark _)) (pss_one (ps_ret (pe_tup (pa_cons (pe_ix ix_list (pe_lst (pa_cons pe_str (pa_cons pe_str pa_nil))) (pe_call GT hr1 (by rfl) mT kT bT .nil pass0 (pa_cons (pv 2) (pa_cons pe_int pa_nil))) (fun _ _ => rfl)) (pa_cons (pe_call ih hr (by rfl) mE kE bE .nil pass0 (pa_cons (pv 0) (pa_cons (pe_op op_sub (pv 1) pe_int) pa_nil))) pa_nil))))) pss_nil)
        (pss_cons (ps_set (i := 4) nd rfl (.inl rfl) (pe_ix ix_list (pe_call0 GP hr1 (by rfl) mP kP bP .nil pass0)
            (pe_ix ix_list (pe_lst (pa_cons pe_int (pa_cons pe_int (pa_cons pe_int (pa_cons pe_int (pa_cons pe_int (pa_cons pe_int (pa_cons pe_int (pa_cons pe_int (pa_cons pe_int (pa_cons pe_int (pa_cons pe_int (pa_cons pe_int pa_nil))))))))))))) (pe_call GT hr1 (by rfl) mT kT bT .nil pass0 (pa_cons (pv 2) (pa_cons pe_int pa_nil))) (fun _ _ => rfl)) (fun _ _ => rfl)))
        (pss_one (ps_ret (pe_tup (pa_cons (pv 4) (pa_cons (pe_call ih hr (by rfl) mE kE bE .nil pass0 (pa_cons (pv 0) (pa_cons (pe_op op_sub (pv 1) pe_int) pa_nil))) (pa_cons (pe_call ih hr (by rfl) mE kE bE .nil pass0 (pa_cons (pv 0) (pa_cons (pe_op op_sub (pv 1) pe_int) pa_nil))) pa_nil))))))))))), ?_⟩
      -- draw = p['draw']; k = _law_take(draw, 10)
      refine ⟨_, rfl, pa, _, rfl, DGet.k (k := Sum.inr "draw") M.p, ?_⟩
      refine ⟨_, rfl, d, c, ns, 10, rfl, M.drd, by decide, by decide, fun k H1 hk D1 kp1 => ?_⟩
      have M1 := M.next D1 kp1
      refine gName_go (nx_go (tSeq_go (tIfS_val (or_val (fun Q q => ⟨_, rfl, rfl, _, rfl, q⟩) (fun Q q => ⟨_, rfl, _, _, rfl, rfl, _, rfl, q⟩)) (ite2 (fun e => ?_) (fun e => ?_)))))
      · refine ⟨_, rfl, d, c, ns, 3, rfl, M1.drd, by decide, by decide, fun k2 H2 hk2 D2 kp2 => ⟨rfl, _, rfl, ite2 (fun e => ?_) (fun e => ?_)⟩⟩
        · have M2 := M1.next D2 kp2
          refine ⟨_, rfl, _, rfl, pa, _, rfl, DGet.k (k := Sum.inr "width") M2.p, d, c, ns, W, rfl, M2.drd, M2.w1, M2.w16, fun z H3 hz D3 kp3 => ⟨(by show 2 ≤ sizeLine; decide), fun p hp => ?_⟩⟩
          exact q (.int z) (.ref p) _ hz (Nat.le_add_left 1 n) ⟨p, rfl, upd_same⟩ ((M2.next D3 kp3).same (same_new hp)) (((kp1.trans kp2).trans kp3).trans (Keep.of (same_new hp)))
        · have M2 := M1.next D2 kp2
          have hlen : ((vars.map fun n : Nat => V.int (n : Int)).length : Int) = (vars.length : Int) := by rw [List.length_map]
          have hv0 := M2.v0
          have hv1 := M2.v1
          refine ⟨_, rfl, pa, _, rfl, DGet.k (k := Sum.inr "variables") M2.p, _, rfl, _, rfl, pa, _, rfl, DGet.k (k := Sum.inr "variables") M2.p, vl, _, rfl, .inl (.of M2.vt), d, c, ns, _, rfl, M2.drd, by omega, by omega, fun z H3 hz D3 kp3 => ?_⟩
          have hzl : z < vars.length := by omega
          have M3 := M2.next D3 kp3
          have hv : (vars.map fun n : Nat => V.int (n : Int))[z]? = some (.int (vars[z] : Int)) := by
            rw [List.getElem?_map, List.getElem?_eq_getElem hzl]
            rfl
          refine ⟨vl, _, _, _, rfl, rfl, .of M3.vt, atI_nat hv, (by show 2 ≤ sizeLine; decide), fun p hp => ?_⟩
          exact q (.var vars[z]) (.ref p) _ (M3.lt _ (List.getElem_mem hzl)) (Nat.le_add_left 1 n) ⟨p, rfl, upd_same⟩ (M3.same (same_new hp)) (((kp1.trans kp2).trans kp3).trans (Keep.of (same_new hp)))
      · obtain ⟨m, rfl⟩ : ∃ m, n = m + 1 := by
          cases n with
          | zero => exact absurd rfl e
          | succ m => exact ⟨m, rfl⟩
        have em : (((m + 1 : Nat) : Int) - 1) = (m : Int) := by omega
        refine ⟨_, rfl, rfl, _, rfl, ite2 (fun e4 => ?_) (fun e4 => ?_)⟩
        · refine ⟨_, rfl, _, rfl, _, _, rfl, rfl, pa, d, c, vl, ns, W, vars, congrArg (fun z => [V.ref pa, V.int z]) em, M1, fun e v H2 ok dp at_ M2 kp2 => ⟨(by show 2 ≤ sizeLine; decide), fun p hp => ?_⟩⟩
          exact q (.load e) (.ref p) _ ok (Nat.succ_le_succ dp) ⟨p, v, rfl, upd_same, at_.mono (Tups.of (same_new hp))⟩ (M2.same (same_new hp)) ((kp1.trans kp2).trans (Keep.of (same_new hp)))
        refine ⟨_, rfl, rfl, _, rfl, ite2 (fun e5 => ?_) (fun e5 => ?_)⟩
        · refine ⟨(by show 2 ≤ sizeLine; decide), fun p0 hp0 => ?_⟩
          have Ma := M1.same (same_new (o := .lst [.str "not", .str "neg"]) hp0)
          refine ⟨_, rfl, d, c, ns, 2, rfl, Ma.drd, by decide, by decide, fun k2 H3 hk2 D3 kp3 => ?_⟩
          obtain ⟨op, hop, ho⟩ : ∃ op : Str, ([.str "not", .str "neg"] : List V)[k2]? = some (.str op) ∧ (op = "not" ∨ op = "neg") := by
            have h2 : k2 < 2 := by omega
            match k2, h2 with
            | 0, _ => exact ⟨_, rfl, .inl rfl⟩
            | 1, _ => exact ⟨_, rfl, .inr rfl⟩
            | k + 2, h => omega
          refine ⟨p0, _, _, _, rfl, rfl, .of (kp3 p0 _ upd_same (M1.drd.ne hp0)), atI_nat hop, ?_⟩
          refine ⟨_, rfl, _, rfl, _, _, rfl, rfl, pa, d, c, vl, ns, W, vars, congrArg (fun z => [V.ref pa, V.int z]) em, Ma.next D3 kp3, fun e v H2 ok dp at_ M2 kp2 => ⟨(by show 2 ≤ sizeLine; decide), fun p hp => ?_⟩⟩
          exact q (.one op e) (.ref p) _ ⟨ho, ok⟩ (Nat.succ_le_succ dp) ⟨p, v, rfl, upd_same, at_.mono (Tups.of (same_new hp))⟩ (M2.same (same_new hp)) ((((kp1.trans (Keep.of (same_new hp0))).trans kp3).trans kp2).trans (Keep.of (same_new hp)))
        refine ⟨rfl, fun p4 hp4 => ⟨(by show 12 ≤ sizeLine; decide), fun p5 hp5 => ?_⟩⟩
        have n45 : p4 ≠ p5 := ne_of_none upd_same hp5
        have Ma := (M1.same (same_new (o := .lst ten) hp4)).same (same_new (o := .lst [.int 0, .int 0, .int 1, .int 2, .int 3, .int 4, .int 5, .int 6, .int 7, .int 8, .int 9, .int 0]) hp5)
        refine ⟨_, rfl, d, c, ns, 12, rfl, Ma.drd, by decide, by decide, fun k2 H3 hk2 D3 kp3 => ?_⟩
        obtain ⟨j, hj, hj10⟩ := twelve_ix (k := k2) (by omega)
        have hjl : j < tenS.length := hj10
        have hop : ten[j]? = some (.str tenS[j]) := by
          rw [ten_eq, List.getElem?_map, List.getElem?_eq_getElem hjl]
          rfl
        have np4 : p4 ≠ d := M1.drd.ne hp4
        have np5 : p5 ≠ d := (M1.same (same_new hp4)).drd.ne hp5
        refine ⟨p5, _, _, _, rfl, rfl, .of (kp3 p5 _ upd_same np5), atI_nat hj, p4, _, _, _, rfl, rfl, .of (kp3 p4 _ (by rw [upd_ne n45]; exact upd_same) np4), atI_nat hop, ?_⟩
        refine ⟨_, rfl, _, rfl, _, rfl, _, _, rfl, rfl, pa, d, c, vl, ns, W, vars, congrArg (fun z => [V.ref pa, V.int z]) em, Ma.next D3 kp3, fun e v H4 ok dp at_ M4 kp4 => ?_⟩
        refine ⟨_, rfl, _, rfl, _, _, rfl, rfl, pa, d, c, vl, ns, W, vars, congrArg (fun z => [V.ref pa, V.int z]) em, M4, fun e2 v2 H5 ok2 dp2 at2 M5 kp5 => ⟨(by show 3 ≤ sizeLine; decide), fun p hp => ?_⟩⟩
        exact q (.two tenS[j] e e2) (.ref p) _ ⟨List.getElem_mem hjl, ok, ok2⟩ (deep_le dp dp2) ⟨p, v, v2, rfl, upd_same, (at_.mono (Tups.keep M4.drd kp5)).mono (Tups.of (same_new hp)), at2.mono (Tups.of (same_new hp))⟩ (M5.same (same_new hp))
          ((((((kp1.trans (Keep.of (same_new hp4))).trans (Keep.of (same_new hp5))).trans kp3).trans kp4).trans kp5).trans (Keep.of (same_new hp)))
end
end K0

set_option Elab.async false
set_option linter.all false
set_option maxRecDepth 100000
set_option maxHeartbeats 1000000
namespace K0
open PySem L2
inductive Sm where
  | set (x : Nat) (e : Ex)
  | write (e : Ex)
  | store (a e : Ex)
def SmAt (H : Hp) : Sm → V → Prop
  | .set x e, v => ∃ a u, v = .ref a ∧ H a = some (.tup [.str "set", .int (x : Int), u]) ∧ ExAt H e u
  | .write e, v => ∃ a u, v = .ref a ∧ H a = some (.tup [.str "write", u]) ∧ ExAt H e u
  | .store z e, v => ∃ a u y, v = .ref a ∧ H a = some (.tup [.str "store", u, y]) ∧ ExAt H z u ∧ ExAt H e y
theorem SmAt.mono {H H' : Hp} (t : Tups H H') : ∀ {s : Sm} {v : V}, SmAt H s v → SmAt H' s v
  | .set x e, v, ⟨a, u, e1, e2, h⟩ => ⟨a, u, e1, t _ _ e2, h.mono t⟩
  | .write e, v, ⟨a, u, e1, e2, h⟩ => ⟨a, u, e1, t _ _ e2, h.mono t⟩
  | .store z e, v, ⟨a, u, y, e1, e2, h, h2⟩ => ⟨a, u, y, e1, t _ _ e2, h.mono t, h2.mono t⟩
/-- a right expression that nests at most three deep -/
def E3 (W : Nat) (e : Ex) : Prop := EOk W e ∧ e.deep ≤ 3
def SmOk (W : Nat) : Sm → Prop
  | .set x e => x ∈ uni ∧ E3 W e
  | .write e => E3 W e
  | .store a e => E3 W a ∧ E3 W e
def spS : Sp := fun vs H Q _ => ∃ (pa d c vl : Addr) (ns : List Int) (W : Nat) (vars : List Nat), vs = [.ref pa] ∧ Mk H pa d c vl ns W vars ∧
  ∀ (s : Sm) (v : V) (H' : Hp), SmOk W s → SmAt H' s v → Mk H' pa d c vl ns W vars → Keep d H H' → Q v H'
/-- the maker of expressions as it is called -/
structure GotE (P : Program) (w : World) (K : PySem.W.Frag) (mg : Str → Option Value) (base : Heap) : Prop where
  ex : ∃ (f : Addr) (fd : FuncData), (∀ n, FnOk P w K mg base CX0 (3 + n) f fd ["p", "depth"] (spE n)) ∧ mg "_law_expression" = some (.ref f) ∧ PySem.W.keepIn K (.ref f) = true ∧ Binds K fd ["p", "depth"] []
section
variable {P : Program} {w : World} {K : PySem.W.Frag} {mg : Str → Option Value} {base : Heap}
theorem scStmt : FnScope ["p", "draw", "k"] ["p"] (defScope sStmt) := ⟨rfl, rfl, rfl, by decide +kernel, rfl, by decide +kernel, by decide +kernel⟩
theorem ok_stmt {f : Addr} {fd : FuncData} (F : Fun K "_law_statement" "_law_statement" sStmt f fd) (ml : mg "len" = none)
    (GT : Got P w K mg base 1 "_law_take" ["draw", "many"] spTake) (GE : GotE P w K mg base) : FnOk P w K mg base CX0 7 f fd ["p"] spS := by
  obtain ⟨fT, fdT, GT, mT, kT, bT⟩ := GT.ex
  obtain ⟨fE, fdE, GE, mE, kE, bE⟩ := GE.ex
  have G2 := GE 3
  have G1 := GE 2
  refine F.ok scStmt (fun vs H Q E h => ?_) (fun cdv A outer s H vs Q E hr h => ?_)
  · obtain ⟨pa, d, c, vl, ns, W, vars, rfl, _⟩ := h
    rfl
  · obtain ⟨pa, d, c, vl, ns, W, vars, rfl, M, q⟩ := h
    have nd := scStmt.nd
    have hu := hu_of hr
    have hr1 : Room 1 _ := hr.mono (by decide)
    have hrE : Room (3 + 3) _ := hr
    have hrF : Room (3 + 2) _ := hr.mono (by decide)
    refine ⟨_, pss_cons (ps_set (i := 1) nd rfl (.inl rfl) (pe_dget hu (pv 0) pe_str (fun _ _ => rfl)))
      (pss_cons (ps_set (i := 2) nd rfl (.inl rfl) (pe_call GT hr1 (by rfl) mT kT bT .nil pass0 (pa_cons (pv 1) (pa_cons pe_int pa_nil))))
      (pss_cons (ps_if (pt_cmpR op_lt (pv 2) pe_int (nomark _)) (pss_one (ps_ret (pe_tup (pa_cons pe_str (pa_cons
          (pe_ix ix_list (pe_dget hu (pv 0) pe_str (fun _ _ => rfl)) (pe_call GT hr1 (by rfl) mT kT bT .nil pass0 (pa_cons (pv 1) (pa_cons (pe_callB call_len_seq (by rfl) ml PySem.boot_len (pa_cons (pe_dget hu (pv 0) pe_str (fun _ _ => rfl)) pa_nil)) pa_nil))) (fun _ _ => rfl))
          (pa_cons (pe_call G2 hrE (by rfl) mE kE bE .nil pass0 (pa_cons (pv 0) (pa_cons pe_int pa_nil))) pa_nil)))))) pss_nil)
      (pss_cons (ps_if (pt_cmpR op_lt (pv 2) pe_int (nomark _)) (pss_one (ps_ret (pe_tup (pa_cons pe_str (pa_cons (pe_call G2 hrE (by rfl) mE kE bE .nil pass0 (pa_cons (pv 0) (pa_cons pe_int pa_nil))) pa_nil))))) pss_nil)
      (pss_one (ps_ret (pe_tup (pa_cons pe_str (pa_cons (pe_call G1 hrF (by rfl) mE kE bE .nil pass0 (pa_cons (pv 0) (pa_cons pe_int pa_nil))) (pa_cons (pe_call G2 hrE (by rfl) mE kE bE .nil pass0 (pa_cons (pv 0) (pa_cons pe_int pa_nil))) pa_nil))))))))), ?_⟩
    refine ⟨_, rfl, pa, _, rfl, DGet.k (k := Sum.inr "draw") M.p, ?_⟩
    refine ⟨_, rfl, d, c, ns, 8, rfl, M.drd, by decide, by decide, fun k H1 hk D1 kp1 => ?_⟩
    have M1 := M.next D1 kp1
    have hlen : ((vars.map fun n : Nat => V.int (n : Int)).length : Int) = (vars.length : Int) := by rw [List.length_map]
    have hv0 := M1.v0
    have hv1 := M1.v1
    refine ⟨_, rfl, _, _, rfl, rfl, _, rfl, ite2 (fun e => ?_) (fun e => ?_)⟩
    · refine ⟨_, rfl, pa, _, rfl, DGet.k (k := Sum.inr "variables") M1.p, _, rfl, _, rfl, pa, _, rfl, DGet.k (k := Sum.inr "variables") M1.p, vl, _, rfl, .inl (.of M1.vt), d, c, ns, _, rfl, M1.drd, by omega, by omega, fun z H3 hz D3 kp3 => ?_⟩
      have hzl : z < vars.length := by omega
      have M3 := M1.next D3 kp3
      have hv : (vars.map fun n : Nat => V.int (n : Int))[z]? = some (.int (vars[z] : Int)) := by
        rw [List.getElem?_map, List.getElem?_eq_getElem hzl]
        rfl
      refine ⟨vl, _, _, _, rfl, rfl, .of M3.vt, atI_nat hv, ?_⟩
      refine ⟨_, rfl, pa, d, c, vl, ns, W, vars, rfl, M3, fun e v H4 ok dp at_ M4 kp4 => ⟨(by show 3 ≤ sizeLine; decide), fun p hp => ?_⟩⟩
      exact q (.set vars[z] e) (.ref p) _ ⟨M3.lt _ (List.getElem_mem hzl), ok, dp⟩ ⟨p, v, rfl, upd_same, at_.mono (Tups.of (same_new hp))⟩ (M4.same (same_new hp)) (((kp1.trans kp3).trans kp4).trans (Keep.of (same_new hp)))
    refine ⟨_, rfl, _, _, rfl, rfl, _, rfl, ite2 (fun e => ?_) (fun e => ?_)⟩
    · refine ⟨_, rfl, pa, d, c, vl, ns, W, vars, rfl, M1, fun e v H4 ok dp at_ M4 kp4 => ⟨(by show 2 ≤ sizeLine; decide), fun p hp => ?_⟩⟩
      exact q (.write e) (.ref p) _ ⟨ok, dp⟩ ⟨p, v, rfl, upd_same, at_.mono (Tups.of (same_new hp))⟩ (M4.same (same_new hp)) ((kp1.trans kp4).trans (Keep.of (same_new hp)))
    refine ⟨_, rfl, pa, d, c, vl, ns, W, vars, rfl, M1, fun e v H4 ok dp at_ M4 kp4 => ?_⟩
    refine ⟨_, rfl, pa, d, c, vl, ns, W, vars, rfl, M4, fun e2 v2 H5 ok2 dp2 at2 M5 kp5 => ⟨(by show 3 ≤ sizeLine; decide), fun p hp => ?_⟩⟩
    exact q (.store e e2) (.ref p) _ ⟨⟨ok, Nat.le_succ_of_le dp⟩, ok2, dp2⟩ ⟨p, v, v2, rfl, upd_same, (at_.mono (Tups.keep M4.drd kp5)).mono (Tups.of (same_new hp)), at2.mono (Tups.of (same_new hp))⟩ (M5.same (same_new hp)) (((kp1.trans kp4).trans kp5).trans (Keep.of (same_new hp)))
end
end K0

set_option Elab.async false
set_option linter.all false
set_option maxRecDepth 100000
set_option maxHeartbeats 2000000
namespace K0
open PySem L2
inductive En where
  | go (l : Nat)
  | iff (e : Ex) (l m : Nat)
  | ret (e : Ex)
structure Bl where
  label : Nat
  body : List Sm
  fin : En
structure Fn where
  width : Nat
  params : Nat
  blocks : List Bl
def EnAt (H : Hp) : En → V → Prop
  | .go l, v => ∃ a, v = .ref a ∧ H a = some (.tup [.str "go", .int (l : Int)])
  | .iff e l m, v => ∃ a u, v = .ref a ∧ H a = some (.tup [.str "if", u, .int (l : Int), .int (m : Int)]) ∧ ExAt H e u
  | .ret e, v => ∃ a u, v = .ref a ∧ H a = some (.tup [.str "return", u]) ∧ ExAt H e u
theorem EnAt.mono {H H' : Hp} (t : Tups H H') : ∀ {s : En} {v : V}, EnAt H s v → EnAt H' s v
  | .go l, v, ⟨a, e1, e2⟩ => ⟨a, e1, t _ _ e2⟩
  | .iff e l m, v, ⟨a, u, e1, e2, h⟩ => ⟨a, u, e1, t _ _ e2, h.mono t⟩
  | .ret e, v, ⟨a, u, e1, e2, h⟩ => ⟨a, u, e1, t _ _ e2, h.mono t⟩
theorem Sms.mono {H H' : Hp} (t : Tups H H') {ss : List Sm} {vs : List V} (h : Paired (SmAt H) ss vs) : Paired (SmAt H') ss vs := L2.Paired.mapP h fun _ _ => SmAt.mono t
def BlAt (H : Hp) (b : Bl) (v : V) : Prop := ∃ a s u vs, v = .ref a ∧ H a = some (.tup [.int (b.label : Int), .ref s, u]) ∧ H s = some (.tup vs) ∧ Paired (SmAt H) b.body vs ∧ EnAt H b.fin u
theorem BlAt.mono {H H' : Hp} (t : Tups H H') {b : Bl} {v : V} : BlAt H b v → BlAt H' b v := fun ⟨a, s, u, vs, e1, e2, e3, h, k⟩ => ⟨a, s, u, vs, e1, t _ _ e2, t _ _ e3, Sms.mono t h, k.mono t⟩
theorem Bls.mono {H H' : Hp} (t : Tups H H') {bs : List Bl} {vs : List V} (h : Paired (BlAt H) bs vs) : Paired (BlAt H') bs vs := L2.Paired.mapP h fun _ _ => BlAt.mono t
def FnAt (H : Hp) (F : Fn) (v : V) : Prop := ∃ a b rows, v = .ref a ∧ H a = some (.tup [.int (F.width : Int), .int (F.params : Int), .ref b]) ∧ H b = some (.tup rows) ∧ Paired (BlAt H) F.blocks rows
theorem FnAt.mono {H H' : Hp} (t : Tups H H') {F : Fn} {v : V} : FnAt H F v → FnAt H' F v := fun ⟨a, b, rows, e1, e2, e3, h⟩ => ⟨a, b, rows, e1, t _ _ e2, t _ _ e3, Bls.mono t h⟩
/-- an end whose labels are among these -/
def EnOk (W : Nat) (ls : List Nat) : En → Prop
  | .go l => l ∈ ls
  | .iff e l m => E3 W e ∧ l ∈ ls ∧ m ∈ ls
  | .ret e => E3 W e
def BlOk (W mo : Nat) (ls : List Nat) (b : Bl) : Prop := (∀ s ∈ b.body, SmOk W s) ∧ b.body.length ≤ mo ∧ EnOk W ls b.fin
structure FnOk' (nb mo : Nat) (F : Fn) : Prop where
  w1 : 1 ≤ F.width
  w16 : F.width ≤ 16
  pr : F.params ≤ 6
  b1 : 1 ≤ F.blocks.length
  bn : F.blocks.length ≤ nb
  nd : (F.blocks.map (·.label)).Nodup
  lt : ∀ b ∈ F.blocks, b.label < 1000
  ok : ∀ b ∈ F.blocks, BlOk F.width mo (F.blocks.map (·.label)).tail b
def spF : Sp := fun vs H Q _ => ∃ (d c : Addr) (ns : List Int) (nb mo : Nat), vs = [.ref d, .int (nb : Int), .int (mo : Int)] ∧ Drd H d c ns ∧ 1 ≤ nb ∧ nb ≤ 40 ∧ mo ≤ 40 ∧
  ∀ (F : Fn) (v : V) (H' : Hp), FnOk' nb mo F → FnAt H' F v → Drd H' d c ns → Keep d H H' → Q v H'
/-! slices -/
theorem cut_to (xs : List V) (n : Nat) : cutV xs none (some (n : Int)) = xs.take n := by
  unfold cutV
  rw [HT.sIx_none, HT.sIx_nat, List.drop_zero, Nat.sub_zero]
  by_cases h : n ≤ xs.length
  · rw [Nat.min_eq_left h]
  · rw [Nat.min_eq_right (by omega), List.take_of_length_le (Nat.le_refl _), List.take_of_length_le (by omega)]
theorem cut_from (xs : List V) (n : Nat) : cutV xs (some (n : Int)) none = xs.drop n := by
  unfold cutV
  rw [HT.sIx_none, HT.sIx_nat]
  by_cases h : n ≤ xs.length
  · rw [Nat.min_eq_left h, List.take_of_length_le (by rw [List.length_drop]; exact Nat.le_refl _)]
  · rw [Nat.min_eq_right (by omega), List.drop_of_length_le (Nat.le_refl _), List.drop_of_length_le (by omega), List.take_nil]
/-! the state goes on: all but the draws stays -/
structure Go (d c : Addr) (ns : List Int) (H H' : Hp) : Prop where
  keep : Keep d H H'
  drd : Drd H' d c ns
theorem Go.start {d c : Addr} {ns : List Int} {H : Hp} (D : Drd H d c ns) : Go d c ns H H := ⟨Keep.refl _ _, D⟩
theorem Go.step {d c : Addr} {ns : List Int} {H H1 H2 : Hp} (g : Go d c ns H H1) (D : Drd H2 d c ns) (k : Keep d H1 H2) : Go d c ns H H2 := ⟨g.keep.trans k, D⟩
theorem Go.new {d c p : Addr} {ns : List Int} {H H1 : Hp} {o : HO} (g : Go d c ns H H1) (h : H1 p = none) : Go d c ns H (upd H1 p o) := ⟨g.keep.trans (Keep.of (same_new h)), g.drd.same (same_new h)⟩
theorem Go.tups {d c : Addr} {ns : List Int} {H H' : Hp} (D : Drd H d c ns) (g : Go d c ns H H') : Tups H H' := Tups.keep D g.keep
/-- an own new object is written -/
theorem Go.own {d c p : Addr} {ns : List Int} {H H1 : Hp} {o : HO} (D : Drd H d c ns) (g : Go d c ns H H1) (h : H p = none) : Go d c ns H (upd H1 p o) := by
  refine ⟨fun b u e n => ?_, ?_⟩
  · rw [upd_ne (ne_of_none e h)]
    exact g.keep b u e n
  · obtain ⟨k0, l0, s0, D0⟩ := D
    obtain ⟨k, l, s, D1⟩ := g.drd
    have nd : d ≠ p := ne_of_none D0.at_ h
    have nc : c ≠ p := ne_of_none D0.cells h
    exact ⟨k, l, s, ⟨by rw [upd_ne nd]; exact D1.at_, by rw [upd_ne nc]; exact D1.cells, D1.ne, D1.k0, D1.l0, D1.s0, D1.s1, D1.pos⟩⟩
theorem Go.toMk {H H' : Hp} {pa d c vl : Addr} {ns : List Int} {W : Nat} {vars : List Nat} (M : Mk H pa d c vl ns W vars) (g : Go d c ns H H') : Mk H' pa d c vl ns W vars := M.next g.drd g.keep
theorem Tups.lst {H : Hp} {p : Addr} {xs ys : List V} (h : H p = some (.lst xs)) : Tups H (upd H p (.lst ys)) := fun b zs e => by
  rw [upd_ne (ne_of e h (by intro q; cases q))]
  exact e
/-! draws -/
theorem draw_wf {t : Nat} (ht : t < 16) {k : Nat} (hk : k < 7) : ∃ W : Nat, ([.int 1, .int 2, .int 3, .int 4, .int 8, .int 16, .int (1 + (t : Int))] : List V)[k]? = some (.int (W : Int)) ∧ 1 ≤ W ∧ W ≤ 16 := by
  match k, hk with
  | 0, _ => exact ⟨1, rfl, by decide, by decide⟩
  | 1, _ => exact ⟨2, rfl, by decide, by decide⟩
  | 2, _ => exact ⟨3, rfl, by decide, by decide⟩
  | 3, _ => exact ⟨4, rfl, by decide, by decide⟩
  | 4, _ => exact ⟨8, rfl, by decide, by decide⟩
  | 5, _ => exact ⟨16, rfl, by decide, by decide⟩
  | 6, _ => exact ⟨1 + t, congrArg (fun z => some (V.int z)) (by omega), by omega, by omega⟩
  | k + 7, h => omega
theorem draw_pr {t : Nat} (ht : t < 7) {k : Nat} (hk : k < 5) : ∃ r : Nat, ([.int 0, .int 1, .int 2, .int 3, .int (t : Int)] : List V)[k]? = some (.int (r : Int)) ∧ r ≤ 6 := by
  match k, hk with
  | 0, _ => exact ⟨0, rfl, by decide⟩
  | 1, _ => exact ⟨1, rfl, by decide⟩
  | 2, _ => exact ⟨2, rfl, by decide⟩
  | 3, _ => exact ⟨3, rfl, by decide⟩
  | 4, _ => exact ⟨t, rfl, by omega⟩
  | k + 5, h => omega
def vars0 : List Nat := [0, 1, 2, 3, 7, 40]
def vars1 : List Nat := [0, 1, 53, 3, 4, 5, 99]
abbrev iv (l : List Nat) : List V := l.map fun n : Nat => V.int (n : Int)
abbrev NF : List Str := ["draw", "blocks", "most", "width", "params", "variables", "p", "count", "k", "labels", "rows", "body", "what", "later", "end", "other", "j"]
theorem iv_len (l : List Nat) : ((iv l).length : Int) = (l.length : Int) := by rw [List.length_map]
theorem iv_get {l : List Nat} {z : Nat} (h : z < l.length) : (iv l)[z]? = some (.int (l[z] : Int)) := by
  rw [List.getElem?_map, List.getElem?_eq_getElem h]
  rfl
theorem dp_iv {K : PySem.W.Frag} {H : Hp} : ∀ l : List Nat, DpAll K H (iv l) (l.map fun n : Nat => PyData.int (n : Int))
  | [] => .nil
  | x :: r => .cons (.int _) (dp_iv r)
theorem can_iv : ∀ l : List Nat, PyData.canLayAll0 (l.map fun n : Nat => PyData.int (n : Int)) = true
  | [] => rfl
  | x :: r => by
    show (true && PyData.canLayAll0 (r.map _)) = true
    rw [can_iv r]
    rfl
theorem dep_iv : ∀ l : List Nat, PyData.depthAll (l.map fun n : Nat => PyData.int (n : Int)) ≤ 1
  | [] => by decide
  | x :: r => by
    have := dep_iv r
    show max (PyData.depth (.int x)) (PyData.depthAll (r.map _)) ≤ 1
    exact Nat.max_le.mpr ⟨by simp [PyData.depth], this⟩
theorem sh_iv (l : List Nat) : SeqAt.shaped (.list (l.map fun n : Nat => PyData.int (n : Int))) = true := by
  unfold SeqAt.shaped
  have h1 : PyData.canLay0 (.list (l.map fun n : Nat => PyData.int (n : Int))) = true := can_iv l
  have h2 := dep_iv l
  have h3 : PyData.depth (.list (l.map fun n : Nat => PyData.int (n : Int))) ≤ 64 := by
    show PyData.depthAll (l.map fun n : Nat => PyData.int (n : Int)) + 1 ≤ 64
    omega
  rw [h1, decide_eq_true h3]
  rfl
theorem eqv_nil (l : List Nat) : PyData.eqv (.list (l.map fun n : Nat => PyData.int (n : Int))) (.list []) = l.isEmpty := by
  cases l with
  | nil => rfl
  | cons x r => rfl
end K0

set_option Elab.async false
set_option linter.all false
set_option maxRecDepth 100000
set_option maxHeartbeats 2000000
namespace K0
open PySem L2
theorem Go.trans {d c : Addr} {ns : List Int} {H H1 H2 : Hp} (a : Go d c ns H H1) (b : Go d c ns H1 H2) : Go d c ns H H2 := ⟨a.keep.trans b.keep, b.drd⟩
theorem Go.new2 {d c p : Addr} {ns : List Int} {H H1 : Hp} {o u : HO} (g : Go d c ns H H1) (h : H1 p = none) : Go d c ns H (upd (upd H1 p o) p u) := by
  rw [upd_upd]
  exact g.new h
theorem prd_snoc {α β : Type} {F : α → β → Prop} : ∀ {xs : List α} {ys : List β} {x : α} {y : β}, Paired F xs ys → F x y → Paired F (xs ++ [x]) (ys ++ [y])
  | _, _, _, _, .nil, h => .cons h .nil
  | _, _, _, _, .cons a t, h => .cons a (prd_snoc t h)
theorem labs_succ (f : Nat → Nat) (i : Nat) : iv ((List.range (i + 1)).map f) = iv ((List.range i).map f) ++ [.int (f i : Int)] := by
  unfold iv
  rw [List.range_succ, List.map_append, List.map_append]
  rfl
theorem iv_take (l : List Nat) (n : Nat) : (iv l).take n = iv (l.take n) := by
  unfold iv
  rw [List.map_take]
theorem iv_drop (l : List Nat) (n : Nat) : (iv l).drop n = iv (l.drop n) := by
  unfold iv
  rw [List.map_drop]
theorem nd_inj {n : Nat} {f : Nat → Nat} (h : ∀ a b, a < b → b < n → f a ≠ f b) : ((List.range n).map f).Nodup := by
  refine List.pairwise_map.mpr (List.Pairwise.imp_of_mem (fun {a b} ha hb hl => h a b hl (List.mem_range.mp hb)) List.pairwise_lt_range)
section
variable {P : Program} {w : World} {K : PySem.W.Frag} {mg : Str → Option Value} {base : Heap}
theorem scFun : FnScope NF ["draw", "blocks", "most"] (defScope sFun) := ⟨rfl, rfl, rfl, by decide +kernel, rfl, by decide +kernel, by decide +kernel⟩
theorem ok_fun {f : Addr} {fd : FuncData} (F : Fun K "_law_function" "_law_function" sFun f fd) (ml : mg "len" = none) (mr : mg "range" = none) (mt : mg "tuple" = none)
    (GT : Got P w K mg base 1 "_law_take" ["draw", "many"] spTake) (GE : GotE P w K mg base) (GS : Got P w K mg base 7 "_law_statement" ["p"] spS) : FnOk P w K mg base CX0 8 f fd ["draw", "blocks", "most"] spF := by
  obtain ⟨fT, fdT, GT, mT, kT, bT⟩ := GT.ex
  obtain ⟨fE, fdE, GE, mE, kE, bE⟩ := GE.ex
  obtain ⟨fS, fdS, GS, mS, kS, bS⟩ := GS.ex
  have G2 := GE 3
  have G1 := GE 2
  refine F.ok scFun (fun vs H Q E h => ?_) (fun cdv A outer s H vs Q E hr h => ?_)
  · obtain ⟨d, c, ns, nb, mo, rfl, _⟩ := h
    rfl
  · obtain ⟨d, c, ns, nb, mo, rfl, D0, nb1, nb40, mo40, q⟩ := h
    have nd := scFun.nd
    have hu := hu_of hr
    have hr1 : Room 1 _ := hr.mono (by decide)
    have hrE : Room (3 + 3) _ := hr.mono (by decide)
    have hrF : Room (3 + 2) _ := hr.mono (by decide)
    refine ⟨_, (pss_cons (ps_set (i := 3) nd rfl (.inl rfl) (pe_ix (r := rIxL K) ix_list (pe_lst (pa_cons pe_int (pa_cons pe_int (pa_cons pe_int (pa_cons pe_int (pa_cons pe_int (pa_cons pe_int (pa_cons (pe_op op_add pe_int (pe_call GT hr1 (by rfl) mT kT bT .nil pass0 (pa_cons (pv 0) (pa_cons pe_int pa_nil)))) pa_nil)))))))) (pe_call GT hr1 (by rfl) mT kT bT .nil pass0 (pa_cons (pv 0) (pa_cons pe_int pa_nil))) (fun _ _ => rfl))) (pss_cons (ps_set (i := 4) nd rfl (.inl rfl) (pe_ix (r := rIxL K) ix_list (pe_lst (pa_cons pe_int (pa_cons pe_int (pa_cons pe_int (pa_cons pe_int (pa_cons (pe_call GT hr1 (by rfl) mT kT bT .nil pass0 (pa_cons (pv 0) (pa_cons pe_int pa_nil))) pa_nil)))))) (pe_call GT hr1 (by rfl) mT kT bT .nil pass0 (pa_cons (pv 0) (pa_cons pe_int pa_nil))) (fun _ _ => rfl))) (pss_cons (ps_set (i := 5) nd rfl (.inl rfl) (pe_slice sl_list (pe_ix (r := rIxL K) ix_list (pe_lst (pa_cons (pe_lst (pa_cons pe_int (pa_cons pe_int (pa_cons pe_int (pa_cons pe_int (pa_cons pe_int (pa_cons pe_int pa_nil))))))) (pa_cons (pe_lst (pa_cons pe_int (pa_cons pe_int (pa_cons pe_int (pa_cons pe_int (pa_cons pe_int (pa_cons pe_int (pa_cons pe_int pa_nil)))))))) pa_nil))) (pe_call GT hr1 (by rfl) mT kT bT .nil pass0 (pa_cons (pv 0) (pa_cons pe_int pa_nil))) (fun _ _ => rfl)) po_none (po_some (pe_op op_add pe_int (pe_call GT hr1 (by rfl) mT kT bT .nil pass0 (pa_cons (pv 0) (pa_cons pe_int pa_nil))))))) (pss_cons (ps_set (i := 6) nd rfl (.inr rfl) (pe_disp (pps_cons pe_str (pv 0) (pps_cons pe_str (pv 3) (pps_cons pe_str (pv 5) pps_nil))) rfl rfl (by simp) (by decide))) (pss_cons (ps_set (i := 7) nd rfl (.inr rfl) (pe_op op_add pe_int (pe_call GT hr1 (by rfl) mT kT bT .nil pass0 (pa_cons (pv 0) (pa_cons (pv 1) pa_nil))))) (pss_cons (ps_set (i := 9) nd rfl (.inr rfl) (pe_lc (own := [("k", 8)]) (g := gName 8) (tt := tYes) rfl nd (pi_range1 (by rfl) mr (pa_cons (pv 7) pa_nil)) (blkOk_by (N := NF) (sc := defScope sFun) (by decide +kernel)) (fun _ _ _ _ _ => pg_name (i := 8) nd rfl (.inl rfl)) (fun _ _ _ _ _ => pts_nil) (fun _ _ _ _ _ => (pe_op op_add pe_int (pe_op op_mul pe_int (pv 8)))))) (C8.pss_cut (ps_if (pt_cmpR op_eq (pe_call GT hr1 (by rfl) mT kT bT .nil pass0 (pa_cons (pv 0) (pa_cons pe_int pa_nil))) pe_int (nomark _)) (pss_one (ps_set (i := 9) nd rfl (.inr rfl) (pe_lc (own := [("k", 8)]) (g := gName 8) (tt := tYes) rfl nd (pi_range1 (by rfl) mr (pa_cons (pv 7) pa_nil)) (blkOk_by (N := NF) (sc := defScope sFun) (by decide +kernel)) (fun _ _ _ _ _ => pg_name (i := 8) nd rfl (.inl rfl)) (fun _ _ _ _ _ => pts_nil) (fun _ _ _ _ _ => (pe_ix (r := rIxL K) ix_list (pv 9) (pe_op op_sub (pe_op op_sub (pv 7) pe_int) (pv 8)) (fun _ _ => rfl)))))) pss_nil) (pss_cons (ps_set (i := 10) nd rfl (.inl rfl) (pe_lst pa_nil)) (pss_cons (ps_for PassesOwn.never rfl (pi_range1 (by rfl) mr (pa_cons (pv 7) pa_nil)) (pg_name (i := 8) nd rfl (.inl rfl)) (pss_cons (ps_setLc (i := 11) (own := [("j", 16)]) (g := gName 16) (tt := tYes) rfl nd rfl rfl (sw_true rfl rfl rfl (by decide +kernel)) (pi_range1 (by rfl) mr (pa_cons (pe_call GT hr1 (by rfl) mT kT bT .nil pass0 (pa_cons (pv 0) (pa_cons (pe_op op_add (pv 2) pe_int) pa_nil))) pa_nil)) (blkOk_by (N := NF) (sc := defScope sFun) (by decide +kernel)) (fun _ _ _ _ _ => pg_name (i := 16) nd rfl (.inl rfl)) (fun _ _ _ _ _ => pts_nil) (fun _ _ _ _ _ => (pe_call GS hr (by rfl) mS kS bS .nil pass0 (pa_cons (pv 6) pa_nil)))) (pss_cons (ps_set (i := 12) nd rfl (.inl rfl) (pe_call GT hr1 (by rfl) mT kT bT .nil pass0 (pa_cons (pv 0) (pa_cons pe_int pa_nil)))) (pss_cons (ps_set (i := 13) nd rfl (.inl rfl) (pe_slice sl_list (pv 9) (po_some (pe_op op_add (pv 8) pe_int)) po_none)) (C8.pss_cut (ps_if (PW.pt (pw_or (pt_cmpR (op_eqD hr.units) (pv 13) (pe_lst pa_nil) (nomark _)) (pw_or1 (pt_cmpR op_eq (pv 12) pe_int (nomark _))))) (pss_one (ps_set (i := 14) nd rfl (.inl rfl) (pe_tup (pa_cons pe_str (pa_cons (pe_call G1 hrF (by rfl) mE kE bE .nil pass0 (pa_cons (pv 6) (pa_cons pe_int pa_nil))) pa_nil))))) (pss_one (ps_if (pt_cmpR op_eq (pv 12) pe_int (nomark _)) (pss_one (ps_set (i := 14) nd rfl (.inl rfl) (pe_tup (pa_cons pe_str (pa_cons (pe_ix (r := rIxL K) ix_list (pv 13) (pe_call GT hr1 (by rfl) mT kT bT .nil pass0 (pa_cons (pv 0) (pa_cons (pe_callB call_len_seq (by rfl) ml PySem.boot_len (pa_cons (pv 13) pa_nil)) pa_nil))) (fun _ _ => rfl)) pa_nil))))) (C8.pss_cut (ps_set (i := 15) nd rfl (.inl rfl) (pe_ifExp (pt_cmpR op_eq (pe_call GT hr1 (by rfl) mT kT bT .nil pass0 (pa_cons (pv 0) (pa_cons pe_int pa_nil))) pe_int (nomark _)) (pe_ix (r := rIxL K) ix_list (pe_slice sl_list (pv 9) (po_some pe_int) po_none) (pe_call GT hr1 (by rfl) mT kT bT .nil pass0 (pa_cons (pv 0) (pa_cons (pe_op op_sub (pv 7) pe_int) pa_nil))) (fun _ _ => rfl)) (pe_ix (r := rIxL K) ix_list (pv 13) (pe_call GT hr1 (by rfl) mT kT bT .nil pass0 (pa_cons (pv 0) (pa_cons (pe_callB call_len_seq (by rfl) ml PySem.boot_len (pa_cons (pv 13) pa_nil)) pa_nil))) (fun _ _ => rfl)))) (pss_one (ps_set (i := 14) nd rfl (.inl rfl) (pe_tup (pa_cons pe_str (pa_cons (pe_call G2 hrE (by rfl) mE kE bE .nil pass0 (pa_cons (pv 6) (pa_cons pe_int pa_nil))) (pa_cons (pv 15) (pa_cons (pe_ix (r := rIxL K) ix_list (pv 13) (pe_call GT hr1 (by rfl) mT kT bT .nil pass0 (pa_cons (pv 0) (pa_cons (pe_callB call_len_seq (by rfl) ml PySem.boot_len (pa_cons (pv 13) pa_nil)) pa_nil))) (fun _ _ => rfl)) pa_nil))))))))))) (pss_one (ps_expr (pe_bm PySem.F.plainAttrs_list PySem.F.slot_list_append PySem.F.type_list_append mt_append (pv 10) (pa_cons (pe_tup (pa_cons (pe_ix (r := rIxL K) ix_list (pv 9) (pv 8) (fun _ _ => rfl)) (pa_cons (pe_callTy call_tuple_of (by rfl) mt (by decide +kernel) (pa_cons (pv 11) pa_nil)) (pa_cons (pv 14) pa_nil)))) pa_nil))))))))) (pss_one (ps_ret (pe_tup (pa_cons (pv 3) (pa_cons (pv 4) (pa_cons (pe_callTy call_tuple_of (by rfl) mt (by decide +kernel) (pa_cons (pv 10) pa_nil)) pa_nil))))))))))))))), ?_⟩
    -- width
    refine ⟨_, rfl, d, c, ns, 16, rfl, D0, by decide, by decide, fun t H1 ht D1 kp1 => ⟨_, _, rfl, rfl, (by show 7 ≤ sizeLine; decide), fun p1 hp1 => ?_⟩⟩
    refine ⟨_, rfl, d, c, ns, 7, rfl, (((Go.start D0).step D1 kp1).new hp1).drd, by decide, by decide, fun k H2 hk D2 kp2 => ?_⟩
    have g2 : Go d c ns H H2 := (((Go.start D0).step D1 kp1).new hp1).step D2 kp2
    obtain ⟨W, hv, w1, w16⟩ := draw_wf (t := t) (by omega) (k := k) (by omega)
    refine ⟨p1, _, _, _, rfl, rfl, .of (kp2 p1 _ upd_same (D1.ne hp1)), atI_nat hv, ?_⟩
    -- params
    refine ⟨_, rfl, d, c, ns, 7, rfl, g2.drd, by decide, by decide, fun t3 H3 ht3 D3 kp3 => ⟨(by show 5 ≤ sizeLine; decide), fun p3 hp3 => ?_⟩⟩
    refine ⟨_, rfl, d, c, ns, 5, rfl, ((g2.step D3 kp3).new hp3).drd, by decide, by decide, fun k4 H4 hk4 D4 kp4 => ?_⟩
    have g4 : Go d c ns H H4 := ((g2.step D3 kp3).new hp3).step D4 kp4
    obtain ⟨pr, hv4, pr6⟩ := draw_pr (t := t3) (by omega) (k := k4) (by omega)
    refine ⟨p3, _, _, _, rfl, rfl, .of (kp4 p3 _ upd_same (D3.ne hp3)), atI_nat hv4, ?_⟩
    -- variables
    refine ⟨(by show 6 ≤ sizeLine; decide), fun a0 ha0 => ⟨(by show 7 ≤ sizeLine; decide), fun a1 ha1 => ⟨(by show 2 ≤ sizeLine; decide), fun a2 ha2 => ?_⟩⟩⟩
    refine ⟨_, rfl, d, c, ns, 2, rfl, (((g4.new ha0).new ha1).new ha2).drd, by decide, by decide, fun k5 H5 hk5 D5 kp5 => ?_⟩
    have g5 : Go d c ns H H5 := (((g4.new ha0).new ha1).new ha2).step D5 kp5
    have n01 : a0 ≠ a1 := ne_of_none upd_same ha1
    have n12 : a1 ≠ a2 := ne_of_none upd_same ha2
    have n02 : a0 ≠ a2 := ne_of_none (by rw [upd_ne n01]; exact upd_same) ha2
    have d0 : a0 ≠ d := g4.drd.ne ha0
    have d1 : a1 ≠ d := (g4.new ha0).drd.ne ha1
    have d2 : a2 ≠ d := ((g4.new ha0).new ha1).drd.ne ha2
    obtain ⟨pp, L, hv5, hL, ppd, L2, L7, Llt⟩ : ∃ (pp : Addr) (L : List Nat), ([.ref a0, .ref a1] : List V)[k5]? = some (.ref pp) ∧ H5 pp = some (.lst (iv L)) ∧ pp ≠ d ∧ 2 ≤ L.length ∧ L.length ≤ 7 ∧ ∀ x ∈ L, x ∈ uni := by
      have h2 : k5 < 2 := by omega
      match k5, h2 with
      | 0, _ => exact ⟨a0, vars0, rfl, kp5 a0 _ (by rw [upd_ne n02, upd_ne n01]; exact upd_same) d0, d0, by decide, by decide, by decide⟩
      | 1, _ => exact ⟨a1, vars1, rfl, kp5 a1 _ (by rw [upd_ne n12]; exact upd_same) d1, d1, by decide, by decide, by decide⟩
      | k + 2, h => omega
    refine ⟨a2, _, _, _, rfl, rfl, .of (kp5 a2 _ upd_same d2), atI_nat hv5, ?_⟩
    refine ⟨_, rfl, d, c, ns, 6, rfl, g5.drd, by decide, by decide, fun t6 H6 ht6 D6 kp6 => ⟨_, _, rfl, rfl, ((2 + t6 : Nat) : Int), congrArg V.int (by omega), pp, _, rfl, .of (kp6 pp _ hL ppd), fun vl hvl => ?_⟩⟩
    have g6 : Go d c ns H H6 := g5.step D6 kp6
    have ec : cutV (iv L) none (some ((2 + t6 : Nat) : Int)) = iv (L.take (2 + t6)) := by rw [cut_to, iv_take]
    -- p
    intro pa hpa
    refine ⟨_, rfl, _, rfl, _, rfl, upd_same, pKv d W vl, rfl, (by show 3 ≤ 15; decide), ?_⟩
    have g8 := (g6.new hvl).new2 (u := .dK (mergeK [] (pKv d W vl))) (o := .dK []) hpa
    have nvp : vl ≠ pa := ne_of_none upd_same hpa
    have M8 : Mk (upd (upd (upd H6 vl (.lst (cutV (iv L) none (some ((2 + t6 : Nat) : Int))))) pa (.dK [])) pa (.dK (mergeK [] (pKv d W vl)))) pa d c vl ns W (L.take (2 + t6)) :=
      ⟨g8.drd, upd_same, by rw [upd_ne nvp, upd_ne nvp, upd_same, ec], by rw [List.length_take]; omega, by rw [List.length_take]; omega, fun x hx => Llt x (List.mem_of_mem_take hx), w1, w16⟩
    -- count
    refine ⟨_, rfl, _, rfl, d, c, ns, nb, rfl, g8.drd, by omega, by omega, fun t9 H9 ht9 D9 kp9 => ⟨_, _, rfl, rfl, ?_⟩⟩
    have g9 : Go d c ns H H9 := g8.step D9 kp9
    have M9 : Mk H9 pa d c vl ns W (L.take (2 + t6)) := M8.next D9 kp9
    have en : ((1 : Int) + (t9 : Int)).toNat = 1 + t9 := by omega
    -- labels
    refine ⟨_, rfl, _, rfl, by omega, by omega, fun la hla => lc_range (lo := 0) (n := ((1 : Int) + (t9 : Int)).toNat) (fun i H' => H' la = some (.lst (iv ((List.range i).map fun k => 3 + 5 * k))) ∧ Go d c ns H9 H') ⟨upd_same, (Go.start D9).new hla⟩ ?_ ?_⟩
    · rintro i H' hi ⟨hl, gg⟩
      refine ⟨rfl, ?_⟩
      refine tYes_go ?_
      refine ⟨_, rfl, _, _, rfl, rfl, .inl ⟨by decide, by decide⟩, _, _, rfl, rfl, _, hl, ?_, ?_, Go.own D9 gg hla⟩
      · rw [List.length_map, List.length_map, List.length_range]
        exact small1000 (by omega)
      · rw [upd_same, labs_succ]
        have e5 : ((3 + 5 * i : Nat) : Int) = 3 + 5 * (0 + (i : Int)) := by omega
        rw [e5]
    rintro H10 ⟨hl10, g10⟩
    rw [en] at hl10
    have lad : la ≠ d := D9.ne hla
    -- labels turned round
    refine ⟨fun σ' H' => ∃ (la : Addr) (ls : List Nat), σ' = [some (.ref d), some (.int (nb : Int)), some (.int (mo : Int)), some (.int (W : Int)), some (.int (pr : Int)), some (.ref vl), some (.ref pa), some (.int (1 + (t9 : Int))), none, some (.ref la), none, none, none, none, none, none, none] ∧
      Go d c ns H9 H' ∧ H' la = some (.lst (iv ls)) ∧ la ≠ d ∧ ls.length = 1 + t9 ∧ ls.Nodup ∧ ∀ x ∈ ls, x < 1000, ?_, ?_⟩
    · refine ⟨_, rfl, d, c, ns, 3, rfl, g10.drd, by decide, by decide, fun z H11 hz D11 kp11 => ⟨rfl, _, rfl, ite2 (fun e => ?_) (fun e => ?_)⟩⟩
      · have g11 : Go d c ns H9 H11 := g10.step D11 kp11
        have hl11 : H11 la = some (.lst (iv ((List.range (1 + t9)).map fun k => 3 + 5 * k))) := kp11 la _ hl10 lad
        refine ⟨_, rfl, _, rfl, by omega, by omega, fun lb hlb => lc_range (lo := 0) (n := ((1 : Int) + (t9 : Int)).toNat) (fun i H' => H' lb = some (.lst (iv ((List.range i).map fun k => 3 + 5 * (t9 - k)))) ∧ Go d c ns H11 H') ⟨upd_same, (Go.start D11).new hlb⟩ ?_ ?_⟩
        · rintro i H' hi ⟨hl, gg⟩
          refine ⟨rfl, ?_⟩
          refine tYes_go ?_
          have hj : t9 - i < ((List.range (1 + t9)).map fun k => 3 + 5 * k).length := by
            rw [List.length_map, List.length_range]
            omega
          refine ⟨_, rfl, _, rfl, _, _, rfl, rfl, _, rfl, _, _, rfl, rfl, la, _, _, _, rfl, rfl, .of (gg.keep la _ hl11 lad), at_of (j := t9 - i) (by omega) (iv_get hj), _, hl, ?_, ?_, Go.own D11 gg hlb⟩
          · rw [List.length_map, List.length_map, List.length_range]
            exact small1000 (by omega)
          · rw [upd_same, labs_succ, List.getElem_map, List.getElem_range]
        · rintro H' ⟨hl, gg⟩
          rw [en] at hl
          refine ⟨lb, _, rfl, g11.trans gg, hl, D11.ne hlb, by rw [List.length_map, List.length_range], nd_inj (fun a b h1 h2 => by omega), fun x hx => ?_⟩
          obtain ⟨k, hk, rfl⟩ := List.mem_map.mp hx
          omega
      · refine ⟨la, _, rfl, g10.step D11 kp11, kp11 la _ hl10 lad, lad, by rw [List.length_map, List.length_range], nd_inj (fun a b h1 h2 => by omega), fun x hx => ?_⟩
        obtain ⟨k, hk, rfl⟩ := List.mem_map.mp hx
        have := List.mem_range.mp hk
        omega
    rintro σ' H12 ⟨la, ls, rfl, g12, hl12, lad, ll, lnd, llt⟩
    have M12 : Mk H12 pa d c vl ns W (L.take (2 + t6)) := g12.toMk M9
    -- rows = []
    refine ⟨Nat.zero_le _, fun ra hra => ?_⟩
    have rad : ra ≠ d := g12.drd.ne hra
    refine ⟨_, rfl, _, rfl, by omega, by omega, for_range (lo := 0) (n := ((1 : Int) + (t9 : Int)).toNat) (fun i σ H' => ∃ (y8 y11 y12 y13 y14 y15 : Option V) (vs : List V) (bs : List Bl), σ = [some (.ref d), some (.int (nb : Int)), some (.int (mo : Int)), some (.int (W : Int)), some (.int (pr : Int)), some (.ref vl), some (.ref pa), some (.int (1 + (t9 : Int))), y8, some (.ref la), some (.ref ra), y11, y12, y13, y14, y15, none] ∧
        Go d c ns H12 H' ∧ H' ra = some (.lst vs) ∧ Paired (BlAt H') bs vs ∧ bs.map (·.label) = ls.take i ∧ ∀ b ∈ bs, BlOk W mo ls.tail b)
      ⟨none, none, none, none, none, none, [], [], rfl, (Go.start g12.drd).new hra, upd_same, .nil, rfl, fun b hb => by cases hb⟩ ?_ ?_⟩
    · rintro i σ H13 hi ⟨y8, y11, y12, y13, y14, y15, vs, bs, rfl, g13, hr13, pr13, lab, okb⟩
      rw [en] at hi
      have hil : i < ls.length := by omega
      have M13 : Mk H13 pa d c vl ns W (L.take (2 + t6)) := g13.toMk M12
      have lvs : vs.length = i := by
        have q1 := pr13.length
        have q2 : (bs.map (·.label)).length = (ls.take i).length := by rw [lab]
        rw [List.length_map, List.length_take] at q2
        omega
      -- body
      refine ⟨_, rfl, _, rfl, _, _, rfl, rfl, d, c, ns, _, rfl, g13.drd, by omega, by omega, fun t14 H14 ht14 D14 kp14 => ⟨_, rfl, by omega, by omega, fun Db hDb => lc_range (lo := 0) (n := ((t14 : Nat) : Int).toNat) (fun j H' => ∃ (vs2 : List V) (ss : List Sm), H' Db = some (.lst vs2) ∧ Paired (SmAt H') ss vs2 ∧ ss.length = j ∧ (∀ s ∈ ss, SmOk W s) ∧ Go d c ns H14 H')
        ⟨[], [], upd_same, .nil, rfl, (fun b hb => by cases hb), (Go.start D14).new hDb⟩ ?_ ?_⟩⟩
      · rintro j H' hj ⟨vs2, ss, hD', ps, lss, oks, gg⟩
        rw [Int.toNat_natCast] at hj
        refine ⟨rfl, ?_⟩
        refine tYes_go ?_
        have dbd : Db ≠ d := D14.ne hDb
        refine ⟨_, rfl, pa, d, c, vl, ns, W, L.take (2 + t6), rfl, gg.toMk (M13.next D14 kp14), fun s v H15 ok at_ M15 kp15 => ?_⟩
        have hD15 : H15 Db = some (.lst vs2) := kp15 Db _ hD' dbd
        refine ⟨vs2, hD15, ?_, vs2 ++ [v], ss ++ [s], upd_same, prd_snoc (Sms.mono ((Tups.keep gg.drd kp15).trans (Tups.lst hD15)) ps) (at_.mono (Tups.lst hD15)), by rw [List.length_append, lss]; rfl, ?_, Go.own D14 (gg.step M15.drd kp15) hDb⟩
        · have := ps.length
          exact small1000 (by omega)
        · intro s' hs'
          rcases List.mem_append.mp hs' with h | h
          · exact oks s' h
          · rw [List.mem_singleton.mp h]
            exact ok
      rintro H16 ⟨vs2, ss, hD16, ps16, lss, oks, g16⟩
      rw [Int.toNat_natCast] at lss
      have dbd : Db ≠ d := D14.ne hDb
      have gA : Go d c ns H13 H16 := ((Go.start g13.drd).step D14 kp14).trans g16
      -- what
      refine ⟨_, rfl, d, c, ns, 4, rfl, g16.drd, by decide, by decide, fun wh H17 hwh D17 kp17 => ?_⟩
      have gB : Go d c ns H13 H17 := gA.step D17 kp17
      have gC : Go d c ns H12 H17 := g13.trans gB
      have M17 : Mk H17 pa d c vl ns W (L.take (2 + t6)) := gC.toMk M12
      have hl17 : H17 la = some (.lst (iv ls)) := gC.keep la _ hl12 lad
      -- later
      refine ⟨_, rfl, _, rfl, _, _, rfl, rfl, ((i + 1 : Nat) : Int), congrArg V.int (by omega), la, _, rfl, .of hl17, fun lt hlt => ?_⟩
      have el : cutV (iv ls) (some ((i + 1 : Nat) : Int)) none = iv (ls.drop (i + 1)) := by rw [cut_from, iv_drop]
      have ltd : lt ≠ d := D17.ne hlt
      have hlt0 : (upd H17 lt (.lst (cutV (iv ls) (some ((i + 1 : Nat) : Int)) none))) lt = some (.lst (iv (ls.drop (i + 1)))) := by rw [upd_same, el]
      have g18 : Go d c ns H17 (upd H17 lt (.lst (cutV (iv ls) (some ((i + 1 : Nat) : Int)) none))) := (Go.start D17).new hlt
      have dropT : ∀ x ∈ ls.drop (i + 1), x ∈ ls.tail := fun x hx => by
        rw [← List.drop_one]
        rw [Nat.add_comm, ← List.drop_drop] at hx
        exact List.mem_of_mem_drop hx
      -- the end
      refine ⟨fun σ' H' => ∃ (y15 : Option V) (v : V) (e : En), σ' = [some (.ref d), some (.int (nb : Int)), some (.int (mo : Int)), some (.int (W : Int)), some (.int (pr : Int)), some (.ref vl), some (.ref pa), some (.int (1 + (t9 : Int))), some (.int (0 + (i : Int))), some (.ref la), some (.ref ra), some (.ref Db), some (.int (wh : Int)), some (.ref lt), some v, y15, none] ∧
          Go d c ns H17 H' ∧ EnAt H' e v ∧ EnOk W ls.tail e, ?_, ?_⟩
      · refine ⟨_, rfl, Nat.zero_le _, fun pe hpe => ?_⟩
        have nlp : lt ≠ pe := ne_of_none hlt0 hpe
        have hlt1 : ∀ o, (upd (upd H17 lt (.lst (cutV (iv ls) (some ((i + 1 : Nat) : Int)) none))) pe o) lt = some (.lst (iv (ls.drop (i + 1)))) := fun o => by rw [upd_ne nlp, hlt0]
        have g19 := g18.new (o := .lst []) hpe
        have M19 := g19.toMk M17
        refine ⟨_, .list [], .lst (.of (hlt1 _)) (dp_iv _), .lst (.of upd_same) .nil, sh_iv _, (by decide +kernel), _, rfl, ite2 (fun e1 => iteT ?_) (fun e1 => ?_)⟩
        · refine ⟨_, rfl, pa, d, c, vl, ns, W, L.take (2 + t6), rfl, M19, fun e v H20 ok dp at_ M20 kp20 => ⟨(by show 2 ≤ sizeLine; decide), fun p hp => ?_⟩⟩
          exact ⟨y15, .ref p, .ret e, rfl, (g19.step M20.drd kp20).new hp, ⟨p, v, rfl, upd_same, at_.mono (Tups.of (same_new hp))⟩, ok, Nat.le_succ_of_le dp⟩
        refine ⟨_, rfl, rfl, _, rfl, ite2 (fun e2 => ?_) (fun e2 => ?_)⟩
        · refine ⟨_, rfl, pa, d, c, vl, ns, W, L.take (2 + t6), rfl, M19, fun e v H20 ok dp at_ M20 kp20 => ⟨(by show 2 ≤ sizeLine; decide), fun p hp => ?_⟩⟩
          exact ⟨y15, .ref p, .ret e, rfl, (g19.step M20.drd kp20).new hp, ⟨p, v, rfl, upd_same, at_.mono (Tups.of (same_new hp))⟩, ok, Nat.le_succ_of_le dp⟩
        have hne : 0 < (ls.drop (i + 1)).length := by
          cases hq : ls.drop (i + 1) with
          | nil =>
            rw [hq] at e1
            exact absurd rfl e1
          | cons x r => exact Nat.succ_pos _
        have hle : (ls.drop (i + 1)).length ≤ 40 := by
          rw [List.length_drop]
          omega
        have hlen := iv_len (ls.drop (i + 1))
        refine ⟨_, rfl, rfl, _, rfl, ite2 (fun e3 => ?_) (fun e3 => ?_)⟩
        · refine ⟨_, rfl, _, rfl, _, rfl, lt, _, rfl, .inl (.of (hlt1 _)), d, c, ns, _, rfl, g19.drd, by omega, by omega, fun z H21 hz D21 kp21 => ?_⟩
          have hzl : z < (ls.drop (i + 1)).length := by omega
          refine ⟨lt, _, _, _, rfl, rfl, .of (kp21 lt _ (hlt1 _) ltd), atI_nat (iv_get hzl), (by show 2 ≤ sizeLine; decide), fun p hp => ?_⟩
          exact ⟨y15, .ref p, .go (ls.drop (i + 1))[z], rfl, (g19.step D21 kp21).new hp, ⟨p, rfl, upd_same⟩, dropT _ (List.getElem_mem hzl)⟩
        · -- other
          refine ⟨fun σ' H' => ∃ o : Nat, σ' = [some (.ref d), some (.int (nb : Int)), some (.int (mo : Int)), some (.int (W : Int)), some (.int (pr : Int)), some (.ref vl), some (.ref pa), some (.int (1 + (t9 : Int))), some (.int (0 + (i : Int))), some (.ref la), some (.ref ra), some (.ref Db), some (.int (wh : Int)), some (.ref lt), y14, some (.int (o : Int)), none] ∧
              Go d c ns H17 H' ∧ H' lt = some (.lst (iv (ls.drop (i + 1)))) ∧ o ∈ ls.tail, ?_, ?_⟩
          · refine ⟨_, rfl, d, c, ns, 3, rfl, g19.drd, by decide, by decide, fun z H21 hz D21 kp21 => ⟨rfl, _, rfl, ite2 (fun e4 => ?_) (fun e4 => ?_)⟩⟩
            · have hl21 : H21 la = some (.lst (iv ls)) := (g19.step D21 kp21).keep la _ hl17 lad
              refine ⟨_, rfl, 1, rfl, la, _, rfl, .of hl21, fun l1 hl1 => ?_⟩
              have e1c : cutV (iv ls) (some ((1 : Nat) : Int)) none = iv (ls.drop 1) := by rw [cut_from, iv_drop]
              have hl1' : (upd H21 l1 (.lst (cutV (iv ls) (some 1) none))) l1 = some (.lst (iv (ls.drop 1))) := upd_same.trans (congrArg (fun z => some (HO.lst z)) e1c)
              have nl1 : lt ≠ l1 := ne_of_none (kp21 lt _ (hlt1 _) ltd) hl1
              have l1d : l1 ≠ d := D21.ne hl1
              have hd1 : (ls.drop 1).length = t9 := by
                rw [List.length_drop]
                omega
              have hd2 : (ls.drop (i + 1)).length = t9 - i := by
                rw [List.length_drop]
                omega
              refine ⟨_, rfl, _, rfl, _, _, rfl, rfl, d, c, ns, _, rfl, D21.same (same_new hl1), by omega, by omega, fun z2 H22 hz2 D22 kp22 => ?_⟩
              have hzl : z2 < (ls.drop 1).length := by omega
              refine ⟨l1, _, _, _, rfl, rfl, .of (kp22 l1 _ hl1' l1d), atI_nat (iv_get hzl), ?_⟩
              refine ⟨(ls.drop 1)[z2], rfl, ((g19.step D21 kp21).new hl1).step D22 kp22, kp22 lt _ (by rw [upd_ne nl1]; exact kp21 lt _ (hlt1 _) ltd) ltd, ?_⟩
              have hm : ∀ x, x ∈ ls.drop 1 → x ∈ ls.tail := fun x h => by
                rw [List.drop_one] at h
                exact h
              exact hm _ (List.getElem_mem hzl)
            · have hlt2 := kp21 lt _ (hlt1 _) ltd
              refine ⟨_, rfl, _, rfl, _, rfl, lt, _, rfl, .inl (.of hlt2), d, c, ns, _, rfl, D21, by omega, by omega, fun z2 H22 hz2 D22 kp22 => ?_⟩
              have hzl : z2 < (ls.drop (i + 1)).length := by omega
              refine ⟨lt, _, _, _, rfl, rfl, .of (kp22 lt _ hlt2 ltd), atI_nat (iv_get hzl), ?_⟩
              exact ⟨(ls.drop (i + 1))[z2], rfl, (g19.step D21 kp21).step D22 kp22, kp22 lt _ hlt2 ltd, dropT _ (List.getElem_mem hzl)⟩
          · rintro σ' H23 ⟨o, rfl, g23, hlt3, om⟩
            refine ⟨_, rfl, pa, d, c, vl, ns, W, L.take (2 + t6), rfl, g23.toMk M17, fun e v H24 ok dp at_ M24 kp24 => ?_⟩
            have hlt4 := kp24 lt _ hlt3 ltd
            refine ⟨_, rfl, _, rfl, _, rfl, _, rfl, lt, _, rfl, .inl (.of hlt4), d, c, ns, _, rfl, M24.drd, by omega, by omega, fun z2 H25 hz2 D25 kp25 => ?_⟩
            have hzl : z2 < (ls.drop (i + 1)).length := by omega
            refine ⟨lt, _, _, _, rfl, rfl, .of (kp25 lt _ hlt4 ltd), atI_nat (iv_get hzl), (by show 4 ≤ sizeLine; decide), fun p hp => ?_⟩
            exact ⟨_, .ref p, .iff e o (ls.drop (i + 1))[z2], rfl, ((g23.step M24.drd kp24).step D25 kp25).new hp, ⟨p, v, rfl, upd_same, (at_.mono (Tups.keep M24.drd kp25)).mono (Tups.of (same_new hp))⟩, ⟨ok, dp⟩, om, dropT _ (List.getElem_mem hzl)⟩
      · rintro σ' H26 ⟨y15', v, e, rfl, g26, at_, oken⟩
        have gD : Go d c ns H12 H26 := gC.trans g26
        have gE : Go d c ns H13 H26 := gB.trans g26
        have hl26 : H26 la = some (.lst (iv ls)) := gD.keep la _ hl12 lad
        have hD26 : H26 Db = some (.lst vs2) := g26.keep Db _ (kp17 Db _ hD16 dbd) dbd
        have hr26 : H26 ra = some (.lst vs) := gE.keep ra _ hr13 rad
        refine ⟨_, rfl, .inl ⟨rfl, _, .of hr26⟩, _, rfl, _, rfl, la, _, _, _, rfl, rfl, .of hl26, at_of (j := i) (by omega) (iv_get hil), _, rfl, Db, _, rfl, .inl ⟨.of hD26, fun tb htb => ?_⟩⟩
        refine ⟨_, rfl, (by show 3 ≤ sizeLine; decide), fun tp htp => ?_⟩
        have ntb : tb ≠ tp := ne_of_none upd_same htp
        have nr1 : ra ≠ tb := ne_of_none hr26 htb
        have nr2 : ra ≠ tp := ne_of_none (by rw [upd_ne nr1]; exact hr26) htp
        have hr28 : ∀ o o', (upd (upd H26 tb o) tp o') ra = some (.lst vs) := fun o o' => by rw [upd_ne nr2, upd_ne nr1]; exact hr26
        refine ⟨ra, _, _, rfl, rfl, hr28 _ _, small1000 (by omega), ?_⟩
        have tu1 : ∀ o o' xs, Tups H26 (upd (upd (upd H26 tb o) tp o') ra (.lst xs)) := fun o o' xs => ((Tups.of (same_new htb)).trans (fun b zs q => by
          by_cases hb : b = tp
          · subst hb
            exfalso
            have := htp
            by_cases hc : b = tb
            · exact ntb hc.symm
            · rw [upd_ne hc] at q
              rw [upd_ne hc] at this
              rw [q] at this
              cases this
          · rw [upd_ne hb]
            exact q)).trans (Tups.lst (hr28 o o'))
        refine ⟨_, _, _, _, _, _, vs ++ [.ref tp], bs ++ [⟨ls[i], ss, e⟩], rfl, Go.own g12.drd ((gD.new htb).new htp) hra, upd_same, ?_, ?_, ?_⟩
        · refine prd_snoc (Bls.mono ((Go.tups g13.drd gE).trans (tu1 _ _ _)) pr13) ⟨tp, tb, v, vs2, rfl, ?_, ?_, ?_, at_.mono (tu1 _ _ _)⟩
          · rw [upd_ne nr2.symm]
            exact upd_same
          · rw [upd_ne nr1.symm, upd_ne ntb]
            exact upd_same
          · exact Sms.mono ((Tups.keep g16.drd kp17).trans ((Go.tups D17 g26).trans (tu1 _ _ _))) ps16
        · rw [List.map_append, lab, List.take_add_one, List.getElem?_eq_getElem hil]
          rfl
        · intro b hb
          rcases List.mem_append.mp hb with h | h
          · exact okb b h
          · rw [List.mem_singleton.mp h]
            exact ⟨oks, by show ss.length ≤ mo; omega, oken⟩
    · rintro σ H27 ⟨y8, y11, y12, y13, y14, y15, vs, bs, rfl, g27, hr27, pr27, lab, okb⟩
      rw [en] at lab
      have elb : bs.map (·.label) = ls := by
        rw [lab]
        exact List.take_of_length_le (by omega)
      have lbs : bs.length = 1 + t9 := by
        have := congrArg List.length elb
        rw [List.length_map] at this
        omega
      refine ⟨_, rfl, _, rfl, _, rfl, ra, _, rfl, .inl ⟨.of hr27, fun tb htb => ⟨(by show 3 ≤ sizeLine; decide), fun tp htp => ?_⟩⟩⟩
      have ntb : tb ≠ tp := ne_of_none upd_same htp
      have gF := (((g9.trans g12).trans g27).new htb).new (o := .tup [.int (W : Int), .int (pr : Int), .ref tb]) htp
      refine q ⟨W, pr, bs⟩ (.ref tp) _ ⟨w1, w16, pr6, by show 1 ≤ bs.length; omega, by show bs.length ≤ nb; omega, by show (bs.map (·.label)).Nodup; rw [elb]; exact lnd, ?_, ?_⟩ ⟨tp, tb, vs, rfl, upd_same, by rw [upd_ne ntb]; exact upd_same, ?_⟩ gF.drd gF.keep
      · intro b hb
        have : b.label ∈ bs.map (·.label) := List.mem_map_of_mem hb
        rw [elb] at this
        exact llt _ this
      · intro b hb
        show BlOk W mo (bs.map (·.label)).tail b
        rw [elb]
        exact okb b hb
      · exact Bls.mono ((Tups.of (same_new htb)).trans (Tups.of (same_new htp))) pr27
end
end K0

set_option Elab.async false
set_option linter.all false
set_option maxRecDepth 100000
set_option maxHeartbeats 1000000
namespace K0
open PySem L2
/-- a set of numbers in the order of coming, as the keys of a dict -/
def kvOf (ks : List Nat) : List (Key × V) := ks.map fun k : Nat => ((Sum.inl (k : Int) : Key), V.bl true)
def ins (ks : List Nat) (x : Nat) : List Nat := if x ∈ ks then ks else ks ++ [x]
def addAll (ks l : List Nat) : List Nat := l.foldl ins ks
theorem key_eq {a b : Nat} : ((Sum.inl (a : Int) : Key) = Sum.inl (b : Int)) ↔ a = b := by
  constructor
  · intro h
    have := Sum.inl.inj h
    omega
  · rintro rfl
    rfl
theorem valV_kvOf (x : Nat) : ∀ ks : List Nat, valV (kvOf ks) (Sum.inl (x : Int)) = if x ∈ ks then some (.bl true) else none
  | [] => rfl
  | k :: r => by
    by_cases e : k = x
    · subst e
      rw [if_pos List.mem_cons_self]
      exact valV_pos (κ := Key) rfl
    · have h := valV_kvOf x r
      have hm : (x ∈ k :: r) ↔ x ∈ r := by
        rw [List.mem_cons]
        exact ⟨fun h => h.resolve_left fun z => e z.symm, .inr⟩
      show valV ((Sum.inl (k : Int), V.bl true) :: kvOf r) _ = _
      rw [valV_neg (fun z => e (key_eq.mp z)), h]
      simp only [hm]
theorem any_kvOf (x : Nat) : ∀ ks : List Nat, ((kvOf ks).any fun kv => decide (kv.1 = Sum.inl (x : Int))) = decide (x ∈ ks)
  | [] => rfl
  | k :: r => by
    show (decide ((Sum.inl (k : Int) : Key) = Sum.inl (x : Int)) || (kvOf r).any _) = _
    rw [any_kvOf x r]
    have e1 : decide ((Sum.inl (k : Int) : Key) = Sum.inl (x : Int)) = decide (k = x) := by
      by_cases e : k = x
      · rw [decide_eq_true (key_eq.mpr e), decide_eq_true e]
      · rw [decide_eq_false (fun z => e (key_eq.mp z)), decide_eq_false e]
    rw [e1]
    by_cases e : k = x
    · simp [e]
    · have e' : ¬ x = k := fun z => e z.symm
      simp [e, e']
theorem put_kvOf (ks : List Nat) (x : Nat) : putK (kvOf ks) (Sum.inl (x : Int)) (.bl true) = kvOf (ins ks x) := by
  unfold putK
  rw [any_kvOf]
  unfold ins
  by_cases h : x ∈ ks
  · rw [decide_eq_true h, if_pos rfl, if_pos h]
    unfold kvOf
    rw [List.map_map]
    refine List.map_congr_left fun k hk => ?_
    show (if (Sum.inl (k : Int) : Key) = Sum.inl (x : Int) then ((Sum.inl (k : Int) : Key), V.bl true) else (Sum.inl (k : Int), V.bl true)) = _
    split <;> rfl
  · rw [decide_eq_false h, if_neg Bool.false_ne_true, if_neg h]
    unfold kvOf
    rw [List.map_append]
    rfl
theorem mem_ins {ks : List Nat} {x y : Nat} : y ∈ ins ks x ↔ y ∈ ks ∨ y = x := by
  unfold ins
  split
  · rename_i h
    exact ⟨.inl, fun z => z.elim id fun e => by rw [e]; exact h⟩
  · rw [List.mem_append, List.mem_singleton]
theorem nd_ins {ks : List Nat} {x : Nat} (h : ks.Nodup) : (ins ks x).Nodup := by
  unfold ins
  split
  · exact h
  · rename_i hx
    rw [List.nodup_append]
    refine ⟨h, List.nodup_cons.mpr ⟨by simp, List.nodup_nil⟩, fun a ha b hb e => ?_⟩
    rw [List.mem_singleton.mp hb] at e
    exact hx (by rw [← e]; exact ha)
theorem mem_addAll : ∀ {l ks : List Nat} {y : Nat}, y ∈ addAll ks l ↔ y ∈ ks ∨ y ∈ l
  | [], ks, y => by
    show y ∈ ks ↔ _
    simp
  | x :: r, ks, y => by
    show y ∈ addAll (ins ks x) r ↔ _
    rw [mem_addAll (l := r), mem_ins, List.mem_cons, or_assoc]
theorem nd_addAll : ∀ {l ks : List Nat}, ks.Nodup → (addAll ks l).Nodup
  | [], ks, h => h
  | x :: r, ks, h => nd_addAll (l := r) (nd_ins h)
theorem addAll_append (ks l m : List Nat) : addAll ks (l ++ m) = addAll (addAll ks l) m := List.foldl_append
theorem nd_len : ∀ {ks l : List Nat}, ks.Nodup → (∀ k ∈ ks, k ∈ l) → ks.length ≤ l.length
  | [], l, _, _ => Nat.zero_le _
  | k :: r, l, nd, h => by
    have hk := h k List.mem_cons_self
    obtain ⟨h1, h2⟩ := List.nodup_cons.mp nd
    have := nd_len (ks := r) (l := l.erase k) h2 fun x hx => (List.mem_erase_of_ne (fun e => h1 (by rw [← e]; exact hx))).mpr (h x (List.mem_cons_of_mem _ hx))
    rw [List.length_erase_of_mem hk] at this
    have := List.length_pos_of_mem hk
    rw [List.length_cons]
    omega
/-- a set over the ten variables -/
structure Us (ks : List Nat) : Prop where
  nd : ks.Nodup
  un : ∀ k ∈ ks, k ∈ uni
theorem Us.len {ks : List Nat} (h : Us ks) : ks.length ≤ 10 := nd_len h.nd h.un
theorem Us.nil : Us [] := ⟨List.nodup_nil, fun k h => by cases h⟩
theorem Us.ins {ks : List Nat} {x : Nat} (h : Us ks) (hx : x ∈ uni) : Us (ins ks x) := ⟨nd_ins h.nd, fun k hk => (mem_ins.mp hk).elim (h.un k) fun e => by rw [e]; exact hx⟩
theorem Us.addAll {ks l : List Nat} (h : Us ks) (hl : ∀ x ∈ l, x ∈ uni) : Us (addAll ks l) := ⟨nd_addAll h.nd, fun k hk => (mem_addAll.mp hk).elim (h.un k) (hl k)⟩
/-- the names of an expression, from the left -/
def nmE : Ex → List Nat
  | .int _ => []
  | .var x => [x]
  | .load e => nmE e
  | .one _ e => nmE e
  | .two _ e f => nmE e ++ nmE f
theorem nmE_uni {W : Nat} : ∀ {e : Ex}, EOk W e → ∀ x ∈ nmE e, x ∈ uni
  | .int _, _, x, h => by cases h
  | .var y, ok, x, h => by
    rw [List.mem_singleton.mp h]
    exact ok
  | .load e, ok, x, h => nmE_uni (e := e) ok x h
  | .one op e, ok, x, h => nmE_uni (e := e) ok.2 x h
  | .two op e f, ok, x, h => (List.mem_append.mp h).elim (nmE_uni (e := e) ok.2.1 x) (nmE_uni (e := f) ok.2.2 x)
theorem sorted_unique : ∀ {a b : List Nat}, a.Pairwise (· < ·) → b.Pairwise (· < ·) → (∀ x, x ∈ a ↔ x ∈ b) → a = b
  | [], [], _, _, _ => rfl
  | [], y :: s, _, _, h => absurd ((h y).mpr List.mem_cons_self) (by simp)
  | x :: r, [], _, _, h => absurd ((h x).mp List.mem_cons_self) (by simp)
  | x :: r, y :: s, ha, hb, h => by
    obtain ⟨a1, a2⟩ := List.pairwise_cons.mp ha
    obtain ⟨b1, b2⟩ := List.pairwise_cons.mp hb
    have exy : x = y := by
      rcases List.mem_cons.mp ((h x).mp List.mem_cons_self) with e | m
      · exact e
      · rcases List.mem_cons.mp ((h y).mpr List.mem_cons_self) with e | m2
        · exact e.symm
        · have := b1 x m
          have := a1 y m2
          omega
    subst exy
    rw [sorted_unique a2 b2 fun z => ?_]
    constructor
    · intro hz
      rcases List.mem_cons.mp ((h z).mp (List.mem_cons_of_mem _ hz)) with e | m
      · have := a1 z hz
        omega
      · exact m
    · intro hz
      rcases List.mem_cons.mp ((h z).mpr (List.mem_cons_of_mem _ hz)) with e | m
      · have := b1 z hz
        omega
      · exact m
/-- what sorted gives of a set -/
theorem sorted_set {ks : List Nat} (nd : ks.Nodup) {ys : List Int} (p : ys.Perm (ks.map fun k : Nat => (k : Int))) (s : ys.Pairwise (· ≤ ·)) : ∃ us : List Nat, ys = us.map (fun k : Nat => (k : Int)) ∧ us.Pairwise (· < ·) ∧ ∀ x, x ∈ us ↔ x ∈ ks := by
  have e : ys = (ys.map Int.toNat).map fun k : Nat => (k : Int) := by
    rw [List.map_map]
    conv => lhs; rw [← List.map_id ys]
    refine List.map_congr_left fun y hy => ?_
    obtain ⟨k, _, rfl⟩ := List.mem_map.mp (p.mem_iff.mp hy)
    show (k : Int) = (((k : Int).toNat : Nat) : Int)
    omega
  have pm : (ys.map Int.toNat).Perm ks := by
    have := p.map Int.toNat
    rw [List.map_map] at this
    have e2 : ks.map (Int.toNat ∘ fun k : Nat => (k : Int)) = ks := by
      conv => rhs; rw [← List.map_id ks]
      exact List.map_congr_left fun k _ => by show ((k : Int)).toNat = k; omega
    rw [e2] at this
    exact this
  refine ⟨ys.map Int.toNat, e, ?_, fun x => pm.mem_iff⟩
  have nd2 : (ys.map Int.toNat).Nodup := pm.nodup_iff.mpr nd
  have s2 : (ys.map Int.toNat).Pairwise (· ≤ ·) := by
    rw [List.pairwise_map]
    exact s.imp fun h => Int.toNat_le_toNat h
  exact (List.pairwise_and_iff.mpr ⟨s2, nd2⟩).imp fun ⟨h1, h2⟩ => Nat.lt_of_le_of_ne h1 h2
end K0

set_option Elab.async false
set_option linter.all false
set_option maxRecDepth 100000
set_option maxHeartbeats 1000000
namespace K0
open PySem L2
theorem dN {a b : Str} (h : ¬ a = b) : ¬ decide (V.str a = V.str b) = true := fun z => h (V.str.inj (of_decide_eq_true z))
theorem big {n : Nat} (h : n ≤ 100000) : n < sizeLine := Nat.lt_of_le_of_lt h (by decide)
theorem prd_get' {α β : Type} {F : α → β → Prop} : ∀ {xs : List α} {ys : List β} {i : Nat} {y : β}, Paired F xs ys → ys[i]? = some y → ∃ x, xs[i]? = some x ∧ F x y
  | _, _, 0, _, .cons h _, e => ⟨_, rfl, by rw [← Option.some.inj e]; exact h⟩
  | _, _, i + 1, _, .cons _ t, e => prd_get' (i := i) t e
  | _, _, _, _, .nil, e => by simp at e
/-- an expression of parts -/
structure Parts (H : Hp) (W n : Nat) (e : Ex) (a : Addr) (op : Str) (vs : List V) (es : List Ex) : Prop where
  at_ : H a = some (.tup (.str op :: vs))
  nv : ¬ op = "var"
  ni : ¬ op = "int"
  pr : Paired (ExAt H) es vs
  ok : ∀ x ∈ es, EOk W x ∧ x.deep ≤ n
  nm : nmE e = es.flatMap nmE
  ne : es ≠ []
theorem tenS_nv : ∀ op ∈ tenS, ¬ op = "var" ∧ ¬ op = "int" := by decide +kernel
theorem parts_of {H : Hp} {W n : Nat} {e : Ex} {v : V} (he : ExAt H e v) (ok : EOk W e) (dp : e.deep ≤ n + 1) (h1 : ∀ k, e ≠ .int k) (h2 : ∀ k, e ≠ .var k) : ∃ a op vs es, v = .ref a ∧ Parts H W n e a op vs es := by
  cases e with
  | int k => exact absurd rfl (h1 k)
  | var k => exact absurd rfl (h2 k)
  | load e =>
    obtain ⟨a, u, rfl, ha, hu⟩ := he
    have d1 : e.deep + 1 ≤ n + 1 := dp
    exact ⟨a, "load", [u], [e], rfl, ha, by decide +kernel, by decide +kernel, .cons hu .nil, fun x hx => by
      rw [List.mem_singleton.mp hx]
      exact ⟨ok, by omega⟩, by simp [nmE], by simp⟩
  | one op e =>
    obtain ⟨a, u, rfl, ha, hu⟩ := he
    have d1 : e.deep + 1 ≤ n + 1 := dp
    have hop : ¬ op = "var" ∧ ¬ op = "int" := by
      rcases ok.1 with rfl | rfl <;> decide +kernel
    exact ⟨a, op, [u], [e], rfl, ha, hop.1, hop.2, .cons hu .nil, fun x hx => by
      rw [List.mem_singleton.mp hx]
      exact ⟨ok.2, by omega⟩, by simp [nmE], by simp⟩
  | two op e f =>
    obtain ⟨a, u, y, rfl, ha, hu, hy⟩ := he
    have d1 : max e.deep f.deep + 1 ≤ n + 1 := dp
    exact ⟨a, op, [u, y], [e, f], rfl, ha, (tenS_nv op ok.1).1, (tenS_nv op ok.1).2, .cons hu (.cons hy .nil), fun x hx => by
      rcases List.mem_cons.mp hx with rfl | hx
      · exact ⟨ok.2.1, by omega⟩
      · rw [List.mem_singleton.mp hx]
        exact ⟨ok.2.2, by omega⟩, by simp [nmE], by simp⟩
theorem cut1 (x : V) (vs : List V) : cutV (x :: vs) (some 1) none = vs := cut_from (x :: vs) 1
theorem nw1 (x : V) (vs : List V) : ¬ (HT.sIx (x :: vs).length 0 (some 1) = 0 ∧ HT.sIx (x :: vs).length (x :: vs).length none = (x :: vs).length) := fun h => by
  have e := HT.sIx_nat (x :: vs).length 0 1
  have h1 := h.1
  rw [show (some (1 : Int)) = some ((1 : Nat) : Int) from rfl, e, List.length_cons] at h1
  omega
theorem Ex.deep_pos : ∀ e : Ex, 1 ≤ e.deep
  | .int _ => Nat.le_refl _
  | .var _ => Nat.le_refl _
  | .load e => Nat.le_add_left _ _
  | .one _ e => Nat.le_add_left _ _
  | .two _ e f => Nat.le_add_left _ _
def KeepD (a : Addr) (H H' : Hp) : Prop := ∀ b o, H b = some o → b ≠ a → H' b = some o
theorem KeepD.tups {a : Addr} {H H' : Hp} {kvs : List (Key × V)} (k : KeepD a H H') (h : H a = some (.dK kvs)) : Tups H H' := fun b xs e => k b _ e (ne_of e h (by intro z; cases z))
def spMark : Nat → Sp
  | 0 => fun _ _ _ _ => False
  | n + 1 => fun vs H Q _ => ∃ (v : V) (da : Addr) (e : Ex) (W : Nat) (ks : List Nat), vs = [v, .ref da] ∧ ExAt H e v ∧ EOk W e ∧ e.deep ≤ n + 1 ∧ H da = some (.dK (kvOf ks)) ∧ Us ks ∧
      ∀ H', KeepD da H H' → H' da = some (.dK (kvOf (addAll ks (nmE e)))) → Q .non H'
def usE (e : Ex) (us : List Nat) : Prop := us.Pairwise (· < ·) ∧ ∀ x, x ∈ us ↔ x ∈ nmE e
def spUses : Sp := fun vs H Q _ => ∃ (v : V) (e : Ex) (W : Nat), vs = [v] ∧ ExAt H e v ∧ E3 W e ∧ ∀ (us : List Nat) (p : Addr) (H' : Hp), usE e us → Same H H' → H' p = some (.tup (iv us)) → H p = none → Q (.ref p) H'
section
variable {P : Program} {w : World} {K : PySem.W.Frag} {mg : Str → Option Value} {base : Heap}
theorem scMark : FnScope ["e", "found", "part"] ["e", "found"] (defScope sMark) := ⟨rfl, rfl, rfl, by decide +kernel, rfl, by decide +kernel, by decide +kernel⟩
theorem scUses : FnScope ["e", "found"] ["e"] (defScope sUses) := ⟨rfl, rfl, rfl, by decide +kernel, rfl, by decide +kernel, by decide +kernel⟩
theorem ok_mark {f : Addr} {fd : FuncData} (F : Fun K "_mark_uses" "_mark_uses" sMark f fd) (mM : mg "_mark_uses" = some (.ref f)) (kM : PySem.W.keepIn K (.ref f) = true) (bM : Binds K fd ["e", "found"] []) : ∀ n, FnOk P w K mg base CX0 (1 + n) f fd ["e", "found"] (spMark n) := by
  intro n
  induction n with
  | zero => exact (F.ok (k := 0) scMark (fun vs H Q E h => h.elim) (fun cdv A outer s H vs Q E hr h => h.elim))
  | succ n ih =>
    have e0 : 1 + (n + 1) = (1 + n) + 1 := by omega
    rw [e0]
    refine F.ok scMark (fun vs H Q E h => ?_) (fun cdv A outer s H vs Q E hr h => ?_)
    · obtain ⟨v, da, e, W, ks, rfl, _⟩ := h
      rfl
    · obtain ⟨v, da, e, W, ks, rfl, he, ok, dp, hd, us, q⟩ := h
      have nd := scMark.nd
      have hu := hu_of hr
      refine ⟨_, (pss_one (ps_if (pt_cmpR op_eq (pe_ix (r := rIxT K) ix_tup (pv 0) pe_int (fun _ _ => rfl)) pe_str (nomark _)) (pss_one (ps_dput hu (pv 1) (pe_ix (r := rIxT K) ix_tup (pv 0) pe_int (fun _ _ => rfl)) pe_bl rfl)) (pss_one (ps_if (pt_cmpR op_ne (pe_ix (r := rIxT K) ix_tup (pv 0) pe_int (fun _ _ => rfl)) pe_str (nomark _)) (pss_one (ps_for PassesOwn.never rfl (pi_tup (pe_slice sl_tup (pv 0) (po_some pe_int) po_none)) (pg_name (i := 2) nd rfl (.inl rfl)) (pss_one (ps_expr (pe_call ih hr (by rfl) mM kM bM .nil pass0 (pa_cons (pv 2) (pa_cons (pv 1) pa_nil))))))) pss_nil)))), ?_⟩
      by_cases h1 : ∃ k, e = .int k
      · obtain ⟨k, rfl⟩ := h1
        obtain ⟨a, rfl, ha⟩ := he
        refine ⟨_, rfl, a, _, _, _, rfl, rfl, .of ha, atI_nat (j := 0) rfl, rfl, _, rfl, ite2 (fun e => absurd e (dN (by decide +kernel))) (fun _ => ?_)⟩
        refine ⟨_, rfl, a, _, _, _, rfl, rfl, .of ha, atI_nat (j := 0) rfl, rfl, _, rfl, iteNS rfl ?_⟩
        exact q H (fun b o e _ => e) hd
      by_cases h2 : ∃ k, e = .var k
      · obtain ⟨k, rfl⟩ := h2
        obtain ⟨a, rfl, ha⟩ := he
        refine ⟨_, rfl, a, _, _, _, rfl, rfl, .of ha, atI_nat (j := 0) rfl, rfl, _, rfl, ite2 (fun _ => ?_) (fun e => absurd dT e)⟩
        have l10 := us.len
        refine ⟨_, rfl, _, rfl, a, _, _, _, rfl, rfl, .of ha, atI_nat (j := 1) rfl, da, _, rfl, DPut.k (k := Sum.inl (k : Int)) hd (big (by unfold kvOf; rw [List.length_map]; omega)), ?_⟩
        refine q _ (fun b o e n => by rw [upd_ne n]; exact e) ?_
        rw [upd_same, put_kvOf]
        rfl
      obtain ⟨a, op, vs, es, rfl, pt⟩ := parts_of he ok dp (fun k e => h1 ⟨k, e⟩) (fun k e => h2 ⟨k, e⟩)
      have ha := pt.at_
      refine ⟨_, rfl, a, _, _, _, rfl, rfl, .of ha, atI_nat (j := 0) rfl, rfl, _, rfl, ite2 (fun e => absurd e (dN pt.nv)) (fun _ => ?_)⟩
      refine ⟨_, rfl, a, _, _, _, rfl, rfl, .of ha, atI_nat (j := 0) rfl, rfl, _, rfl, ?_⟩
      have dne : decide (V.str op = V.str "int") = false := decide_eq_false fun z => pt.ni (V.str.inj z)
      rw [dne]
      refine iteT ?_
      refine ⟨_, rfl, _, rfl, a, _, rfl, .inl (.of ha), nw1 _ _, fun p hp => ?_⟩
      rw [cut1]
      have hpd : da ≠ p := ne_of_none hd hp
      have sp := same_new (o := .tup vs) hp
      refine ⟨p, rfl, ⟨_, .of upd_same⟩, for_tup (xs := vs) (fun i σ H' => ∃ y2, σ = [some (.ref a), some (.ref da), y2] ∧ KeepD da (upd H p (.tup vs)) H' ∧ H' da = some (.dK (kvOf (addAll ks ((es.take i).flatMap nmE)))))
        ⟨none, rfl, fun b o e _ => e, by rw [upd_ne hpd]; exact hd⟩ ?_ ?_ ?_⟩
      · rintro i σ H' _ ⟨y2, _, kp, _⟩
        exact .of (kp p _ upd_same hpd.symm)
      · rintro i x σ H' hx ⟨y2, rfl, kp, hk⟩
        obtain ⟨e1, he1, at1⟩ := prd_get' pt.pr hx
        obtain ⟨ok1, dp1⟩ := pt.ok e1 (List.mem_of_getElem? he1)
        obtain ⟨m, rfl⟩ : ∃ m, n = m + 1 := ⟨n - 1, by have := Ex.deep_pos e1; omega⟩
        have usi : Us (addAll ks ((es.take i).flatMap nmE)) := us.addAll fun y hy => by
          obtain ⟨z, hz, hy⟩ := List.mem_flatMap.mp hy
          exact nmE_uni (pt.ok z (List.mem_of_mem_take hz)).1 y hy
        have est : addAll ks ((es.take (i + 1)).flatMap nmE) = addAll (addAll ks ((es.take i).flatMap nmE)) (nmE e1) := by
          rw [List.take_add_one, he1, List.flatMap_append, addAll_append]
          simp
        refine ⟨_, rfl, _, rfl, x, da, e1, W, _, rfl, at1.mono ((Tups.of sp).trans (KeepD.tups kp (by rw [upd_ne hpd]; exact hd))), ok1, dp1, hk, usi, fun H2 kp2 hk2 => ?_⟩
        exact ⟨_, rfl, fun b o e n => kp2 b o (kp b o e n) n, by rw [est]; exact hk2⟩
      · rintro σ H' ⟨y2, rfl, kp, hk⟩
        have el : es.take vs.length = es := by
          rw [← pt.pr.length]
          exact List.take_length
        rw [el, ← pt.nm] at hk
        exact q _ (fun b o e n => kp b o (sp b o e) n) hk
theorem ok_uses {f : Addr} {fd : FuncData} (F : Fun K "uses" "uses" sUses f fd) (mso : mg "sorted" = none) (mtu : mg "tuple" = none)
    (GM : ∃ (f : Addr) (fd : FuncData), (∀ n, FnOk P w K mg base CX0 (1 + n) f fd ["e", "found"] (spMark n)) ∧ mg "_mark_uses" = some (.ref f) ∧ PySem.W.keepIn K (.ref f) = true ∧ Binds K fd ["e", "found"] []) : FnOk P w K mg base CX0 5 f fd ["e"] spUses := by
  obtain ⟨fM, fdM, GMn, mM, kM, bM⟩ := GM
  have GM := GMn 3
  refine F.ok scUses (fun vs H Q E h => ?_) (fun cdv A outer s H vs Q E hr h => ?_)
  · obtain ⟨v, e, W, rfl, _⟩ := h
    rfl
  · obtain ⟨v, e, W, rfl, he, ok, q⟩ := h
    have nd := scUses.nd
    have hrM : Room (1 + 3) _ := hr
    refine ⟨_, (pss_cons (ps_set (i := 1) nd rfl (.inl rfl) pe_dnewK) (pss_cons (ps_expr (pe_call GM hrM (by rfl) mM kM bM .nil pass0 (pa_cons (pv 0) (pa_cons (pv 1) pa_nil)))) (pss_one (ps_ret (pe_callTy call_tuple_of (by rfl) mtu (by decide +kernel) (pa_cons (pe_callB (call_sortedDI rfl) (by rfl) mso (by decide +kernel) (pa_cons (pv 1) pa_nil)) pa_nil)))))), ?_⟩
    refine fun d hd0 => ⟨_, rfl, _, rfl, v, d, e, W, [], rfl, he.mono (Tups.of (same_new hd0)), ok.1, Nat.le_trans ok.2 (by decide), upd_same, Us.nil, fun H1 kp hk => ?_⟩
    have us : Us (addAll [] (nmE e)) := Us.nil.addAll (nmE_uni ok.1)
    have sm : Same H H1 := fun b o eb => kp b o (same_new hd0 b o eb) (ne_of_none eb hd0)
    refine ⟨_, rfl, d, _, (addAll [] (nmE e)).map fun k : Nat => (k : Int), rfl, .of hk, ?_, ?_, fun ys p pm so hp => ?_⟩
    · unfold kvOf
      rw [List.map_map, List.map_map]
      rfl
    · rw [List.length_map]
      have := us.len
      omega
    · obtain ⟨ul, rfl, us1, us2⟩ := sorted_set us.nd pm so
      refine ⟨p, _, rfl, .inl ⟨.of upd_same, fun t ht => ?_⟩⟩
      refine q ul t _ ⟨us1, fun x => (us2 x).trans (by rw [mem_addAll]; simp)⟩ ((sm.trans (same_new hp)).trans (same_new ht)) ?_ ?_
      · rw [upd_same, List.map_map]
        rfl
      · cases hz : H t with
        | none => rfl
        | some o =>
          rw [(sm.trans (same_new hp)) t o hz] at ht
          cases ht
end
end K0

set_option Elab.async false
set_option linter.all false
set_option maxRecDepth 100000
set_option maxHeartbeats 1000000
namespace K0
open PySem L2
def wys : En → List Nat
  | .go l => [l]
  | .iff _ l m => if l = m then [l] else [l, m]
  | .ret _ => []
def spSucc : Sp := fun vs H Q _ => ∃ (v : V) (b : Bl), vs = [v] ∧ BlAt H b v ∧ ∀ (p : Addr) (H' : Hp), Same H H' → H' p = some (.tup (iv (wys b.fin))) → Q (.ref p) H'
def spEnds : Sp := fun vs H Q _ => ∃ (v : V) (b : Bl), vs = [v] ∧ BlAt H b v ∧ ∀ (p : Addr) (H' : Hp), Same H H' → H' p = some (.lst (iv (wys b.fin))) → Q (.ref p) H'
def spNames : Nat → Sp
  | 0 => fun _ _ _ _ => False
  | n + 1 => fun vs H Q _ => ∃ (v : V) (e : Ex) (W : Nat), vs = [v] ∧ ExAt H e v ∧ EOk W e ∧ e.deep ≤ n + 1 ∧ (nmE e).length ≤ 1000 ∧ ∀ (p : Addr) (H' : Hp), Same H H' → H' p = some (.lst (iv (nmE e))) → H p = none → Q (.ref p) H'
section
variable {P : Program} {w : World} {K : PySem.W.Frag} {mg : Str → Option Value} {base : Heap}
theorem scSucc : FnScope ["block", "end"] ["block"] (defScope sSucc) := ⟨rfl, rfl, rfl, by decide +kernel, rfl, by decide +kernel, by decide +kernel⟩
theorem scEnds : FnScope ["block", "end", "rows"] ["block"] (defScope sEnds) := ⟨rfl, rfl, rfl, by decide +kernel, rfl, by decide +kernel, by decide +kernel⟩
theorem scNames : FnScope ["e", "found", "part"] ["e"] (defScope sNames) := ⟨rfl, rfl, rfl, by decide +kernel, rfl, by decide +kernel, by decide +kernel⟩
theorem ok_succ {f : Addr} {fd : FuncData} (F : Fun K "successors" "successors" sSucc f fd) : FnOk P w K mg base CX0 1 f fd ["block"] spSucc := by
  refine F.ok scSucc (fun vs H Q E h => ?_) (fun cdv A outer s H vs Q E hr h => ?_)
  · obtain ⟨v, b, rfl, _⟩ := h
    rfl
  · obtain ⟨v, b, rfl, ⟨a, sa, u, ss, rfl, ha, hs, ps, he⟩, q⟩ := h
    have nd := scSucc.nd
    refine ⟨_, (pss_cons (ps_set (i := 1) nd rfl (.inl rfl) (pe_ix (r := rIxT K) ix_tup (pv 0) pe_int (fun _ _ => rfl))) (pss_cons (ps_if (pt_cmpR op_eq (pe_ix (r := rIxT K) ix_tup (pv 1) pe_int (fun _ _ => rfl)) pe_str (nomark _)) (pss_one (ps_ret (pe_tup (pa_cons (pe_ix (r := rIxT K) ix_tup (pv 1) pe_int (fun _ _ => rfl)) pa_nil)))) pss_nil) (pss_cons (ps_if (pt_cmpR op_eq (pe_ix (r := rIxT K) ix_tup (pv 1) pe_int (fun _ _ => rfl)) pe_str (nomark _)) (pss_one (ps_ret (pe_tup pa_nil))) pss_nil) (pss_cons (ps_if (pt_cmpR op_eq (pe_ix (r := rIxT K) ix_tup (pv 1) pe_int (fun _ _ => rfl)) (pe_ix (r := rIxT K) ix_tup (pv 1) pe_int (fun _ _ => rfl)) (nomark _)) (pss_one (ps_ret (pe_tup (pa_cons (pe_ix (r := rIxT K) ix_tup (pv 1) pe_int (fun _ _ => rfl)) pa_nil)))) pss_nil) (pss_one (ps_ret (pe_tup (pa_cons (pe_ix (r := rIxT K) ix_tup (pv 1) pe_int (fun _ _ => rfl)) (pa_cons (pe_ix (r := rIxT K) ix_tup (pv 1) pe_int (fun _ _ => rfl)) pa_nil))))))))), ?_⟩
    refine ⟨_, rfl, a, _, _, _, rfl, rfl, .of ha, atI_nat (j := 2) rfl, ?_⟩
    cases hf : b.fin with
    | go l =>
      rw [hf] at he q
      obtain ⟨c, rfl, hc⟩ := he
      refine ⟨_, rfl, c, _, _, _, rfl, rfl, .of hc, atI_nat (j := 0) rfl, rfl, _, rfl, ite2 (fun _ => ?_) (fun e => absurd dT e)⟩
      refine ⟨_, rfl, c, _, _, _, rfl, rfl, .of hc, atI_nat (j := 1) rfl, (by show 1 ≤ sizeLine; decide), fun p hp => q p _ (same_new hp) upd_same⟩
    | ret e =>
      rw [hf] at he q
      obtain ⟨c, y, rfl, hc, hy⟩ := he
      refine ⟨_, rfl, c, _, _, _, rfl, rfl, .of hc, atI_nat (j := 0) rfl, rfl, _, rfl, ite2 (fun e => absurd e (dN (by decide +kernel))) (fun _ => ?_)⟩
      refine ⟨_, rfl, c, _, _, _, rfl, rfl, .of hc, atI_nat (j := 0) rfl, rfl, _, rfl, ite2 (fun _ => ?_) (fun e => absurd dT e)⟩
      exact ⟨(by show 0 ≤ sizeLine; decide), fun p hp => q p _ (same_new hp) upd_same⟩
    | iff e l m =>
      rw [hf] at he q
      obtain ⟨c, y, rfl, hc, hy⟩ := he
      refine ⟨_, rfl, c, _, _, _, rfl, rfl, .of hc, atI_nat (j := 0) rfl, rfl, _, rfl, ite2 (fun e => absurd e (dN (by decide +kernel))) (fun _ => ?_)⟩
      refine ⟨_, rfl, c, _, _, _, rfl, rfl, .of hc, atI_nat (j := 0) rfl, rfl, _, rfl, ite2 (fun e => absurd e (dN (by decide +kernel))) (fun _ => ?_)⟩
      have key : (decide (V.int (l : Int) = V.int (m : Int)) = true) ↔ l = m := by
        rw [decide_eq_true_eq]
        exact ⟨fun e => by have := V.int.inj e; omega, fun e => by rw [e]⟩
      refine ⟨_, rfl, c, _, _, _, rfl, rfl, .of hc, atI_nat (j := 2) rfl, _, rfl, c, _, _, _, rfl, rfl, .of hc, atI_nat (j := 3) rfl, rfl, _, rfl, ite2 (fun e => ?_) (fun e => ?_)⟩
      · have elm := key.mp e
        refine ⟨_, rfl, c, _, _, _, rfl, rfl, .of hc, atI_nat (j := 2) rfl, (by show 1 ≤ sizeLine; decide), fun p hp => q p _ (same_new hp) ?_⟩
        rw [upd_same]
        show _ = some (HO.tup (iv (if l = m then [l] else [l, m])))
        rw [if_pos elm]
        rfl
      · have elm := fun z => e (key.mpr z)
        refine ⟨_, rfl, c, _, _, _, rfl, rfl, .of hc, atI_nat (j := 2) rfl, _, rfl, c, _, _, _, rfl, rfl, .of hc, atI_nat (j := 3) rfl, (by show 2 ≤ sizeLine; decide), fun p hp => q p _ (same_new hp) ?_⟩
        rw [upd_same]
        show _ = some (HO.tup (iv (if l = m then [l] else [l, m])))
        rw [if_neg elm]
        rfl
theorem ok_ends {f : Addr} {fd : FuncData} (F : Fun K "_law_ends" "_law_ends" sEnds f fd) (ml : mg "len" = none) : FnOk P w K mg base CX0 1 f fd ["block"] spEnds := by
  refine F.ok scEnds (fun vs H Q E h => ?_) (fun cdv A outer s H vs Q E hr h => ?_)
  · obtain ⟨v, b, rfl, _⟩ := h
    rfl
  · obtain ⟨v, b, rfl, ⟨a, sa, u, ss, rfl, ha, hs, ps, he⟩, q⟩ := h
    have nd := scEnds.nd
    refine ⟨_, (pss_cons (ps_set (i := 1) nd rfl (.inl rfl) (pe_ix (r := rIxT K) ix_tup (pv 0) pe_int (fun _ _ => rfl))) (pss_cons (ps_set (i := 2) nd rfl (.inl rfl) (pe_ifExp (pt_cmpR op_eq (pe_ix (r := rIxT K) ix_tup (pv 1) pe_int (fun _ _ => rfl)) pe_str (nomark _)) (pe_lst (pa_cons (pe_ix (r := rIxT K) ix_tup (pv 1) pe_int (fun _ _ => rfl)) pa_nil)) (pe_ifExp (pt_cmpR op_eq (pe_ix (r := rIxT K) ix_tup (pv 1) pe_int (fun _ _ => rfl)) pe_str (nomark _)) (pe_lst (pa_cons (pe_ix (r := rIxT K) ix_tup (pv 1) pe_int (fun _ _ => rfl)) (pa_cons (pe_ix (r := rIxT K) ix_tup (pv 1) pe_int (fun _ _ => rfl)) pa_nil))) (pe_lst pa_nil)))) (pss_one (ps_ret (pe_ifExp (PW.pt (pw_and (pt_cmpR op_eq (pe_callB call_len_seq (by rfl) ml PySem.boot_len (pa_cons (pv 2) pa_nil)) pe_int (nomark _)) (pw_and1 (pt_cmpR op_eq (pe_ix (r := rIxL K) ix_list (pv 2) pe_int (fun _ _ => rfl)) (pe_ix (r := rIxL K) ix_list (pv 2) pe_int (fun _ _ => rfl)) (nomark _))))) (pe_slice sl_list (pv 2) po_none (po_some pe_int)) (pv 2)))))), ?_⟩
    refine ⟨_, rfl, a, _, _, _, rfl, rfl, .of ha, atI_nat (j := 2) rfl, ?_⟩
    cases hf : b.fin with
    | go l =>
      rw [hf] at he q
      obtain ⟨c, rfl, hc⟩ := he
      refine ⟨_, rfl, c, _, _, _, rfl, rfl, .of hc, atI_nat (j := 0) rfl, rfl, _, rfl, ite2 (fun _ => ?_) (fun e => absurd dT e)⟩
      refine ⟨_, rfl, c, _, _, _, rfl, rfl, .of hc, atI_nat (j := 1) rfl, (by show 1 ≤ sizeLine; decide), fun p hp => ?_⟩
      refine ⟨_, rfl, p, _, rfl, .inl (.of upd_same), rfl, _, rfl, ite2 (fun e => absurd (V.int.inj (of_decide_eq_true e)) (by show ¬ ((1 : Nat) : Int) = 2; decide)) (fun _ => iteF ?_)⟩
      exact ⟨_, rfl, q p _ (same_new hp) upd_same⟩
    | ret e =>
      rw [hf] at he q
      obtain ⟨c, y, rfl, hc, hy⟩ := he
      refine ⟨_, rfl, c, _, _, _, rfl, rfl, .of hc, atI_nat (j := 0) rfl, rfl, _, rfl, ite2 (fun e => absurd e (dN (by decide +kernel))) (fun _ => ?_)⟩
      refine ⟨_, rfl, c, _, _, _, rfl, rfl, .of hc, atI_nat (j := 0) rfl, rfl, _, rfl, ite2 (fun e => absurd e (dN (by decide +kernel))) (fun _ => ?_)⟩
      refine ⟨(by show 0 ≤ sizeLine; decide), fun p hp => ?_⟩
      refine ⟨_, rfl, p, _, rfl, .inl (.of upd_same), rfl, _, rfl, ite2 (fun e => absurd (V.int.inj (of_decide_eq_true e)) (by show ¬ ((0 : Nat) : Int) = 2; decide)) (fun _ => iteF ?_)⟩
      exact ⟨_, rfl, q p _ (same_new hp) upd_same⟩
    | iff e l m =>
      rw [hf] at he q
      obtain ⟨c, y, rfl, hc, hy⟩ := he
      refine ⟨_, rfl, c, _, _, _, rfl, rfl, .of hc, atI_nat (j := 0) rfl, rfl, _, rfl, ite2 (fun e => absurd e (dN (by decide +kernel))) (fun _ => ?_)⟩
      refine ⟨_, rfl, c, _, _, _, rfl, rfl, .of hc, atI_nat (j := 0) rfl, rfl, _, rfl, ite2 (fun _ => ?_) (fun e => absurd dT e)⟩
      refine ⟨_, rfl, c, _, _, _, rfl, rfl, .of hc, atI_nat (j := 2) rfl, _, rfl, c, _, _, _, rfl, rfl, .of hc, atI_nat (j := 3) rfl, (by show 2 ≤ sizeLine; decide), fun p hp => ?_⟩
      have key : (decide (V.int (l : Int) = V.int (m : Int)) = true) ↔ l = m := by
        rw [decide_eq_true_eq]
        exact ⟨fun e => by have := V.int.inj e; omega, fun e => by rw [e]⟩
      refine ⟨_, rfl, p, _, rfl, .inl (.of upd_same), rfl, _, rfl, ite2 (fun _ => ?_) (fun e => absurd (decide_eq_true (congrArg V.int (show ((2 : Nat) : Int) = 2 by decide))) e)⟩
      refine ⟨_, rfl, p, _, _, _, rfl, rfl, .of upd_same, atI_nat (j := 0) rfl, _, rfl, p, _, _, _, rfl, rfl, .of upd_same, atI_nat (j := 1) rfl, rfl, _, rfl, ite2 (fun e => ?_) (fun e => ?_)⟩
      · have elm := key.mp e
        refine ⟨_, rfl, _, rfl, p, _, rfl, .of upd_same, fun t ht => q t _ ((same_new hp).trans (same_new ht)) ?_⟩
        rw [upd_same]
        show some (HO.lst (cutV _ none (some ((1 : Nat) : Int)))) = some (HO.lst (iv (if l = m then [l] else [l, m])))
        rw [if_pos elm, cut_to]
        rfl
      · have elm := fun z => e (key.mpr z)
        refine ⟨_, rfl, q p _ (same_new hp) ?_⟩
        rw [upd_same]
        show _ = some (HO.lst (iv (if l = m then [l] else [l, m])))
        rw [if_neg elm]
        rfl
theorem ok_names {f : Addr} {fd : FuncData} (F : Fun K "_law_names" "_law_names" sNames f fd) (mM : mg "_law_names" = some (.ref f)) (kM : PySem.W.keepIn K (.ref f) = true) (bM : Binds K fd ["e"] []) (mis : mg "isinstance" = none) (mtu : mg "tuple" = none) : ∀ n, FnOk P w K mg base CX0 (1 + n) f fd ["e"] (spNames n) := by
  intro n
  induction n with
  | zero => exact (F.ok (k := 0) scNames (fun vs H Q E h => h.elim) (fun cdv A outer s H vs Q E hr h => h.elim))
  | succ n ih =>
    have e0 : 1 + (n + 1) = (1 + n) + 1 := by omega
    rw [e0]
    refine F.ok scNames (fun vs H Q E h => ?_) (fun cdv A outer s H vs Q E hr h => ?_)
    · obtain ⟨v, e, W, rfl, _⟩ := h
      rfl
    · obtain ⟨v, e, W, rfl, he, ok, dp, l1k, q⟩ := h
      have nd := scNames.nd
      refine ⟨_, (pss_cons (ps_if (pt_cmpR op_eq (pe_ix (r := rIxT K) ix_tup (pv 0) pe_int (fun _ _ => rfl)) pe_str (nomark _)) (pss_one (ps_ret (pe_lst (pa_cons (pe_ix (r := rIxT K) ix_tup (pv 0) pe_int (fun _ _ => rfl)) pa_nil)))) pss_nil) (pss_cons (ps_set (i := 1) nd rfl (.inl rfl) (pe_lst pa_nil)) (pss_cons (ps_for PassesOwn.never rfl (pi_tup (pe_slice sl_tup (pv 0) (po_some pe_int) po_none)) (pg_name (i := 2) nd rfl (.inl rfl)) (pss_one (ps_if (pt_val (pe_callB call_isi (by rfl) mis (by decide +kernel) (pa_cons (pv 2) (pa_cons (pe_bltn (v := .ty "tuple") (by rfl) mtu (by decide +kernel) rfl) pa_nil)))) (pss_one (ps_set (i := 1) nd rfl (.inl rfl) (pe_op op_cat (pv 1) (pe_call ih hr (by rfl) mM kM bM .nil pass0 (pa_cons (pv 2) pa_nil))))) pss_nil))) (pss_one (ps_ret (pv 1)))))), ?_⟩
      by_cases h1 : ∃ k, e = .int k
      · obtain ⟨k, rfl⟩ := h1
        obtain ⟨a, rfl, ha⟩ := he
        refine ⟨_, rfl, a, _, _, _, rfl, rfl, .of ha, atI_nat (j := 0) rfl, rfl, _, rfl, ite2 (fun e => absurd e (dN (by decide +kernel))) (fun _ => ?_)⟩
        refine ⟨(by show 0 ≤ sizeLine; decide), fun l hl => ?_⟩
        refine ⟨_, rfl, _, rfl, a, _, rfl, .inl (.of (same_new hl _ _ ha)), nw1 _ _, fun p hp => ?_⟩
        rw [cut1]
        have hlp : l ≠ p := ne_of_none upd_same hp
        refine ⟨p, rfl, ⟨_, .of upd_same⟩, for_tup (xs := [.int (k : Int)]) (fun i σ H' => ∃ y2, σ = [some (.ref a), some (.ref l), y2] ∧ H' = upd (upd H l (.lst [])) p (.tup [.int (k : Int)])) ⟨none, rfl, rfl⟩ ?_ ?_ ?_⟩
        · rintro i σ H' _ ⟨y2, _, rfl⟩
          exact .of upd_same
        · rintro i x σ H' hx ⟨y2, rfl, rfl⟩
          obtain rfl : x = .int (k : Int) := by
            cases i with
            | zero => exact (Option.some.inj hx).symm
            | succ i => simp at hx
          refine ⟨_, rfl, _, _, _, _, false, rfl, .ty "tuple", .base (.int _), kit_ty (by decide +kernel), _, rfl, iteF ?_⟩
          exact ⟨_, rfl, rfl⟩
        · rintro σ H' ⟨y2, rfl, rfl⟩
          refine ⟨_, rfl, q l _ ((same_new hl).trans (same_new hp)) ?_ hl⟩
          rw [upd_ne hlp]
          exact upd_same
      by_cases h2 : ∃ k, e = .var k
      · obtain ⟨k, rfl⟩ := h2
        obtain ⟨a, rfl, ha⟩ := he
        refine ⟨_, rfl, a, _, _, _, rfl, rfl, .of ha, atI_nat (j := 0) rfl, rfl, _, rfl, ite2 (fun _ => ?_) (fun e => absurd dT e)⟩
        exact ⟨_, rfl, a, _, _, _, rfl, rfl, .of ha, atI_nat (j := 1) rfl, (by show 1 ≤ sizeLine; decide), fun p hp => q p _ (same_new hp) upd_same hp⟩
      obtain ⟨a, op, vs, es, rfl, pt⟩ := parts_of he ok dp (fun k e => h1 ⟨k, e⟩) (fun k e => h2 ⟨k, e⟩)
      have ha := pt.at_
      refine ⟨_, rfl, a, _, _, _, rfl, rfl, .of ha, atI_nat (j := 0) rfl, rfl, _, rfl, ite2 (fun e => absurd e (dN pt.nv)) (fun _ => ?_)⟩
      refine ⟨(by show 0 ≤ sizeLine; decide), fun l hl => ?_⟩
      refine ⟨_, rfl, _, rfl, a, _, rfl, .inl (.of (same_new hl _ _ ha)), nw1 _ _, fun p hp => ?_⟩
      rw [cut1]
      have hlp : l ≠ p := ne_of_none upd_same hp
      have s0 := (same_new (o := .lst []) hl).trans (same_new (o := .tup vs) hp)
      have fr : ∀ {H' : Hp} {b : Addr}, Same (upd (upd H l (.lst [])) p (.tup vs)) H' → H' b = none → H b = none := fun {H' b} s hb => by
        cases hz : H b with
        | none => rfl
        | some o =>
          rw [(s0.trans s) b o hz] at hb
          cases hb
      refine ⟨p, rfl, ⟨_, .of upd_same⟩, for_tup (xs := vs) (fun i σ H' => ∃ l2 y2, σ = [some (.ref a), some (.ref l2), y2] ∧ Same (upd (upd H l (.lst [])) p (.tup vs)) H' ∧ H' l2 = some (.lst (iv ((es.take i).flatMap nmE))) ∧ H l2 = none)
        ⟨l, none, rfl, Same.refl _, by rw [upd_ne hlp]; exact upd_same, hl⟩ ?_ ?_ ?_⟩
      · rintro i σ H' _ ⟨l2, y2, _, sm, _⟩
        exact .of (sm p _ upd_same)
      · rintro i x σ H' hx ⟨l2, y2, rfl, sm, hk, hn⟩
        obtain ⟨e1, he1, at1⟩ := prd_get' pt.pr hx
        obtain ⟨ok1, dp1⟩ := pt.ok e1 (List.mem_of_getElem? he1)
        obtain ⟨m, rfl⟩ : ∃ m, n = m + 1 := ⟨n - 1, by have := Ex.deep_pos e1; omega⟩
        have est : (es.take (i + 1)).flatMap nmE = (es.take i).flatMap nmE ++ nmE e1 := by
          rw [List.take_add_one, he1, List.flatMap_append]
          simp
        have eall : nmE e = (es.take (i + 1)).flatMap nmE ++ (es.drop (i + 1)).flatMap nmE := by
          rw [pt.nm, ← List.flatMap_append, List.take_append_drop]
        have hlen : ((es.take i).flatMap nmE).length + (nmE e1).length ≤ 1000 := by
          have h3 := congrArg List.length eall
          rw [List.length_append, est, List.length_append] at h3
          omega
        have at2 := at1.mono (Tups.of (s0.trans sm))
        obtain ⟨c1, ys1, hxr, hc1⟩ : ∃ c ys, x = .ref c ∧ H' c = some (.tup ys) := by
          cases e1 with
          | int k => exact ⟨_, _, at2.choose_spec.1, at2.choose_spec.2⟩
          | var k => exact ⟨_, _, at2.choose_spec.1, at2.choose_spec.2⟩
          | load e => obtain ⟨c, u, h1, h2, _⟩ := at2; exact ⟨_, _, h1, h2⟩
          | one op e => obtain ⟨c, u, h1, h2, _⟩ := at2; exact ⟨_, _, h1, h2⟩
          | two op e f => obtain ⟨c, u, y, h1, h2, _⟩ := at2; exact ⟨_, _, h1, h2⟩
        have ty : TyX K H' x (.type "tuple") := by
          rw [hxr]
          exact .base (.tup hc1)
        refine ⟨_, rfl, _, _, _, _, true, rfl, .ty "tuple", ty, kit_ty (by decide +kernel), _, rfl, iteT ?_⟩
        refine ⟨_, rfl, _, rfl, x, e1, W, rfl, at2, ok1, dp1, by omega, fun p2 H2 sm2 hp2 hn2 => ?_⟩
        refine ⟨l2, p2, _, _, rfl, rfl, sm2 _ _ hk, hp2, ?_, fun t ht => ?_⟩
        · rw [List.length_map, List.length_map]
          exact Nat.le_of_lt (big (by omega))
        · have sm3 := (sm.trans sm2).trans (same_new (o := .lst (iv ((es.take i).flatMap nmE) ++ iv (nmE e1))) ht)
          refine ⟨t, _, rfl, sm3, ?_, fr (sm.trans sm2) ht⟩
          rw [upd_same, est]
          unfold iv
          rw [List.map_append]
      · rintro σ H' ⟨l2, y2, rfl, sm, hk, hn⟩
        have el : es.take vs.length = es := by
          rw [← pt.pr.length]
          exact List.take_length
        rw [el, ← pt.nm] at hk
        exact ⟨_, rfl, q l2 _ (s0.trans sm) hk hn⟩
end
end K0

set_option Elab.async false
set_option linter.all false
set_option maxRecDepth 100000
set_option maxHeartbeats 1000000
namespace K0
open PySem L2
/-- a statement or an end -/
abbrev It := Sum Sm En
def ItAt (H : Hp) : It → V → Prop
  | .inl s => SmAt H s
  | .inr s => EnAt H s
theorem ItAt.mono {H H' : Hp} (t : Tups H H') : ∀ {s : It} {v : V}, ItAt H s v → ItAt H' s v
  | .inl _, _, h => SmAt.mono t h
  | .inr _, _, h => EnAt.mono t h
def exps : It → List Ex
  | .inl (.set _ e) => [e]
  | .inl (.write e) => [e]
  | .inl (.store z e) => [z, e]
  | .inr (.go _) => []
  | .inr (.iff e _ _) => [e]
  | .inr (.ret e) => [e]
def setsV : It → Option Nat
  | .inl (.set x _) => some x
  | _ => none
def itsOf (b : Bl) : List It := b.body.map .inl ++ [.inr b.fin]
def ItOk (W : Nat) (it : It) : Prop := (∀ e ∈ exps it, E3 W e) ∧ ∀ x, setsV it = some x → x ∈ uni
theorem its_ok {W mo : Nat} {ls : List Nat} {b : Bl} (h : BlOk W mo ls b) : ∀ it ∈ itsOf b, ItOk W it := by
  intro it hit
  rcases List.mem_append.mp hit with h1 | h1
  · obtain ⟨s, hs, rfl⟩ := List.mem_map.mp h1
    have ok := h.1 s hs
    cases s with
    | set x e => exact ⟨fun e' h' => by rw [List.mem_singleton.mp h']; exact ok.2, fun y hy => by rw [← Option.some.inj hy]; exact ok.1⟩
    | write e => exact ⟨fun e' h' => by rw [List.mem_singleton.mp h']; exact ok, fun y hy => by cases hy⟩
    | store z e =>
      refine ⟨fun e' h' => ?_, fun y hy => by cases hy⟩
      rcases List.mem_cons.mp h' with rfl | h'
      · exact ok.1
      · rw [List.mem_singleton.mp h']
        exact ok.2
  · rw [List.mem_singleton.mp h1]
    have ok := h.2.2
    cases hf : b.fin with
    | go l => exact ⟨fun e' h' => (by cases h'), fun y hy => by cases hy⟩
    | iff e l m =>
      rw [hf] at ok
      exact ⟨fun e' h' => by rw [List.mem_singleton.mp h']; exact ok.1, fun y hy => by cases hy⟩
    | ret e =>
      rw [hf] at ok
      exact ⟨fun e' h' => by rw [List.mem_singleton.mp h']; exact ok, fun y hy => by cases hy⟩
theorem its_at {H : Hp} {b : Bl} {vs : List V} {u : V} (hs : Paired (SmAt H) b.body vs) (hu : EnAt H b.fin u) : Paired (ItAt H) (itsOf b) (vs ++ [u]) := by
  unfold itsOf
  have h1 : ∀ {ss : List Sm} {vs : List V}, Paired (SmAt H) ss vs → Paired (ItAt H) (ss.map .inl ++ [.inr b.fin]) (vs ++ [u]) := by
    intro ss vs h
    induction h with
    | nil => exact .cons hu .nil
    | cons a t ih => exact .cons a ih
  exact h1 hs
/-- used before set, by the items -/
def usedB (v : Nat) : List It → Bool
  | [] => false
  | it :: r => decide (v ∈ (exps it).flatMap nmE) || (!decide (setsV it = some v) && usedB v r)
def setB (v : Nat) (its : List It) : Bool := its.any fun it => decide (setsV it = some v)
theorem usedB_snoc (v : Nat) (it : It) : ∀ l : List It, usedB v (l ++ [it]) = (usedB v l || (!setB v l && decide (v ∈ (exps it).flatMap nmE)))
  | [] => by simp [usedB, setB]
  | x :: r => by
    show (decide _ || (!decide _ && usedB v (r ++ [it]))) = (decide _ || (!decide _ && usedB v r) || (!setB v (x :: r) && _))
    rw [usedB_snoc v it r]
    have e : setB v (x :: r) = (decide (setsV x = some v) || setB v r) := rfl
    rw [e]
    cases decide (v ∈ (exps x).flatMap nmE) <;> cases decide (setsV x = some v) <;> cases usedB v r <;> cases setB v r <;> rfl
theorem setB_snoc (v : Nat) (it : It) (l : List It) : setB v (l ++ [it]) = (setB v l || decide (setsV it = some v)) := by
  unfold setB
  rw [List.any_append]
  simp
/-- all but the two dicts is as it was -/
def K2 (ua pa : Addr) (A B : Hp) : Prop := ∀ b o, A b = some o → b ≠ ua → b ≠ pa → B b = some o
theorem K2.tups {ua pa : Addr} {A B : Hp} {u p : List (Key × V)} (k : K2 ua pa A B) (h1 : A ua = some (.dK u)) (h2 : A pa = some (.dK p)) : Tups A B := fun b xs e => k b _ e (ne_of e h1 (by intro z; cases z)) (ne_of e h2 (by intro z; cases z))
theorem nmE_flat_uni {W : Nat} {l : List Ex} (h : ∀ e ∈ l, E3 W e) : ∀ x ∈ l.flatMap nmE, x ∈ uni := fun x hx => by
  obtain ⟨e, he, hx⟩ := List.mem_flatMap.mp hx
  exact nmE_uni (h e he).1 x hx
theorem paired_len {α β : Type} {F : α → β → Prop} {xs : List α} {ys : List β} (h : Paired F xs ys) : ys.length = xs.length := h.length.symm
def spItems : Sp := fun vs H Q _ => ∃ (v : V) (it : It), vs = [v] ∧ ItAt H it v ∧ ∀ (p : Addr) (us : List V) (H' : Hp), Same H H' → H' p = some (.tup us) → Paired (ExAt H') (exps it) us → Q (.ref p) H'
def spUS : Sp := fun vs H Q _ => ∃ (v : V) (b : Bl) (W mo : Nat) (ls : List Nat), vs = [v] ∧ BlAt H b v ∧ BlOk W mo ls b ∧ mo ≤ 40 ∧
  ∀ (a ua pa : Addr) (u p : List Nat) (H' : Hp), Same H H' → H' a = some (.tup [.ref ua, .ref pa]) → H' ua = some (.dK (kvOf u)) → H' pa = some (.dK (kvOf p)) → Us u → Us p → (∀ x, x ∈ u ↔ usedB x (itsOf b) = true) → (∀ x, x ∈ p ↔ setB x (itsOf b) = true) →
    H ua = none → H pa = none → ua ≠ pa → Q (.ref a) H'
section
variable {P : Program} {w : World} {K : PySem.W.Frag} {mg : Str → Option Value} {base : Heap}
theorem scItems : FnScope ["item"] ["item"] (defScope sItems) := ⟨rfl, rfl, rfl, by decide +kernel, rfl, by decide +kernel, by decide +kernel⟩
theorem scUS : FnScope ["block", "used", "placed", "item", "e", "v"] ["block"] (defScope sUS) := ⟨rfl, rfl, rfl, by decide +kernel, rfl, by decide +kernel, by decide +kernel⟩
theorem nw12 (x y : V) : ¬ (HT.sIx [x, y].length 0 (some 1) = 0 ∧ HT.sIx [x, y].length [x, y].length (some 2) = [x, y].length) := fun h => by
  have h1 := h.1
  rw [show (some (1 : Int)) = some ((1 : Nat) : Int) from rfl, HT.sIx_nat] at h1
  exact absurd h1 (by show ¬ min 1 2 = 0; decide)
theorem nw2 (x y z : V) : ¬ (HT.sIx [x, y, z].length 0 (some 2) = 0 ∧ HT.sIx [x, y, z].length [x, y, z].length none = [x, y, z].length) := fun h => by
  have h1 := h.1
  rw [show (some (2 : Int)) = some ((2 : Nat) : Int) from rfl, HT.sIx_nat] at h1
  exact absurd h1 (by show ¬ min 2 3 = 0; decide)
theorem nw124 (x y z t : V) : ¬ (HT.sIx [x, y, z, t].length 0 (some 1) = 0 ∧ HT.sIx [x, y, z, t].length [x, y, z, t].length (some 2) = [x, y, z, t].length) := fun h => by
  have h1 := h.1
  rw [show (some (1 : Int)) = some ((1 : Nat) : Int) from rfl, HT.sIx_nat] at h1
  exact absurd h1 (by show ¬ min 1 4 = 0; decide)
theorem ok_items {f : Addr} {fd : FuncData} (F : Fun K "_item_expressions" "_item_expressions" sItems f fd) : FnOk P w K mg base CX0 1 f fd ["item"] spItems := by
  refine F.ok scItems (fun vs H Q E h => ?_) (fun cdv A outer s H vs Q E hr h => ?_)
  · obtain ⟨v, it, rfl, _⟩ := h
    rfl
  · obtain ⟨v, it, rfl, he, q⟩ := h
    have nd := scItems.nd
    refine ⟨_, (pss_cons (ps_if (pt_cmpR op_eq (pe_ix (r := rIxT K) ix_tup (pv 0) pe_int (fun _ _ => rfl)) pe_str (nomark _)) (pss_one (ps_ret (pe_slice sl_tup (pv 0) (po_some pe_int) po_none))) pss_nil) (pss_cons (ps_if (pt_cmpR op_eq (pe_ix (r := rIxT K) ix_tup (pv 0) pe_int (fun _ _ => rfl)) pe_str (nomark _)) (pss_one (ps_ret (pe_slice sl_tup (pv 0) (po_some pe_int) po_none))) pss_nil) (pss_one (ps_ret (pe_ifExp (pt_cmpR op_ne (pe_ix (r := rIxT K) ix_tup (pv 0) pe_int (fun _ _ => rfl)) pe_str (nomark _)) (pe_slice sl_tup (pv 0) (po_some pe_int) (po_some pe_int)) (pe_tup pa_nil)))))), ?_⟩
    match it, he, q with
    | .inl (.set x e), he, q =>
      obtain ⟨a, u, rfl, ha, hu⟩ := he
      refine ⟨_, rfl, a, _, _, _, rfl, rfl, .of ha, atI_nat (j := 0) rfl, rfl, _, rfl, ite2 (fun _ => ?_) (fun e => absurd dT e)⟩
      refine ⟨_, rfl, _, rfl, a, _, rfl, .inl (.of ha), nw2 _ _ _, fun p hp => ?_⟩
      exact q p [u] _ (same_new hp) upd_same (.cons (hu.mono (Tups.of (same_new hp))) .nil)
    | .inl (.store x e), he, q =>
      obtain ⟨a, u, y, rfl, ha, hu, hy⟩ := he
      refine ⟨_, rfl, a, _, _, _, rfl, rfl, .of ha, atI_nat (j := 0) rfl, rfl, _, rfl, ite2 (fun e => absurd e (dN (by decide +kernel))) (fun _ => ?_)⟩
      refine ⟨_, rfl, a, _, _, _, rfl, rfl, .of ha, atI_nat (j := 0) rfl, rfl, _, rfl, ite2 (fun _ => ?_) (fun e => absurd dT e)⟩
      refine ⟨_, rfl, _, rfl, a, _, rfl, .inl (.of ha), nw1 _ _, fun p hp => ?_⟩
      exact q p [u, y] _ (same_new hp) upd_same (.cons (hu.mono (Tups.of (same_new hp))) (.cons (hy.mono (Tups.of (same_new hp))) .nil))
    | .inl (.write e), he, q =>
      obtain ⟨a, u, rfl, ha, hu⟩ := he
      refine ⟨_, rfl, a, _, _, _, rfl, rfl, .of ha, atI_nat (j := 0) rfl, rfl, _, rfl, ite2 (fun e => absurd e (dN (by decide +kernel))) (fun _ => ?_)⟩
      refine ⟨_, rfl, a, _, _, _, rfl, rfl, .of ha, atI_nat (j := 0) rfl, rfl, _, rfl, ite2 (fun e => absurd e (dN (by decide +kernel))) (fun _ => ?_)⟩
      refine ⟨_, rfl, a, _, _, _, rfl, rfl, .of ha, atI_nat (j := 0) rfl, rfl, _, rfl, ?_⟩
      rw [show decide (V.str "write" = V.str "go") = false by decide +kernel]
      refine iteT ?_
      refine ⟨_, rfl, _, rfl, _, rfl, a, _, rfl, .inl (.of ha), nw12 _ _, fun p hp => ?_⟩
      exact q p [u] _ (same_new hp) upd_same (.cons (hu.mono (Tups.of (same_new hp))) .nil)
    | .inr (.ret e), he, q =>
      obtain ⟨a, u, rfl, ha, hu⟩ := he
      refine ⟨_, rfl, a, _, _, _, rfl, rfl, .of ha, atI_nat (j := 0) rfl, rfl, _, rfl, ite2 (fun e => absurd e (dN (by decide +kernel))) (fun _ => ?_)⟩
      refine ⟨_, rfl, a, _, _, _, rfl, rfl, .of ha, atI_nat (j := 0) rfl, rfl, _, rfl, ite2 (fun e => absurd e (dN (by decide +kernel))) (fun _ => ?_)⟩
      refine ⟨_, rfl, a, _, _, _, rfl, rfl, .of ha, atI_nat (j := 0) rfl, rfl, _, rfl, ?_⟩
      rw [show decide (V.str "return" = V.str "go") = false by decide +kernel]
      refine iteT ?_
      refine ⟨_, rfl, _, rfl, _, rfl, a, _, rfl, .inl (.of ha), nw12 _ _, fun p hp => ?_⟩
      exact q p [u] _ (same_new hp) upd_same (.cons (hu.mono (Tups.of (same_new hp))) .nil)
    | .inr (.iff e l m), he, q =>
      obtain ⟨a, u, rfl, ha, hu⟩ := he
      refine ⟨_, rfl, a, _, _, _, rfl, rfl, .of ha, atI_nat (j := 0) rfl, rfl, _, rfl, ite2 (fun e => absurd e (dN (by decide +kernel))) (fun _ => ?_)⟩
      refine ⟨_, rfl, a, _, _, _, rfl, rfl, .of ha, atI_nat (j := 0) rfl, rfl, _, rfl, ite2 (fun e => absurd e (dN (by decide +kernel))) (fun _ => ?_)⟩
      refine ⟨_, rfl, a, _, _, _, rfl, rfl, .of ha, atI_nat (j := 0) rfl, rfl, _, rfl, ?_⟩
      rw [show decide (V.str "if" = V.str "go") = false by decide +kernel]
      refine iteT ?_
      refine ⟨_, rfl, _, rfl, _, rfl, a, _, rfl, .inl (.of ha), nw124 _ _ _ _, fun p hp => ?_⟩
      exact q p [u] _ (same_new hp) upd_same (.cons (hu.mono (Tups.of (same_new hp))) .nil)
    | .inr (.go l), he, q =>
      obtain ⟨a, rfl, ha⟩ := he
      refine ⟨_, rfl, a, _, _, _, rfl, rfl, .of ha, atI_nat (j := 0) rfl, rfl, _, rfl, ite2 (fun e => absurd e (dN (by decide +kernel))) (fun _ => ?_)⟩
      refine ⟨_, rfl, a, _, _, _, rfl, rfl, .of ha, atI_nat (j := 0) rfl, rfl, _, rfl, ite2 (fun e => absurd e (dN (by decide +kernel))) (fun _ => ?_)⟩
      refine ⟨_, rfl, a, _, _, _, rfl, rfl, .of ha, atI_nat (j := 0) rfl, rfl, _, rfl, iteNS rfl ?_⟩
      exact ⟨(by show 0 ≤ sizeLine; decide), fun p hp => q p [] _ (same_new hp) upd_same .nil⟩
theorem ok_us {f : Addr} {fd : FuncData} (F : Fun K "_uses_and_sets" "_uses_and_sets" sUS f fd) (GI : Got P w K mg base 1 "_item_expressions" ["item"] spItems) (GU : Got P w K mg base 5 "uses" ["e"] spUses) : FnOk P w K mg base CX0 6 f fd ["block"] spUS := by
  obtain ⟨fI, fdI, GI, mI, kI, bI⟩ := GI.ex
  obtain ⟨fU, fdU, GU, mU, kU, bU⟩ := GU.ex
  refine F.ok scUS (fun vs H Q E h => ?_) (fun cdv A outer s H vs Q E hr h => ?_)
  · obtain ⟨v, b, W, mo, ls, rfl, _⟩ := h
    rfl
  · obtain ⟨v, b, W, mo, ls, rfl, ⟨a, sa, en, ss, rfl, ha, hs, ps, he⟩, ok, mo40, q⟩ := h
    have nd := scUS.nd
    have hu := hu_of hr
    have hrU : Room 5 _ := hr
    have hrI : Room 1 _ := hr.mono (by decide)
    refine ⟨_, (pss_cons (ps_set (i := 1) nd rfl (.inl rfl) pe_dnewK) (pss_cons (ps_set (i := 2) nd rfl (.inl rfl) pe_dnewK) (pss_cons (ps_for PassesOwn.never rfl (pi_list (pe_lst (StX.pa_star (pe_ix (r := rIxT K) ix_tup (pv 0) pe_int (fun _ _ => rfl)) (pa_cons (pe_ix (r := rIxT K) ix_tup (pv 0) pe_int (fun _ _ => rfl)) pa_nil)))) (pg_name (i := 3) nd rfl (.inl rfl)) (pss_cons (ps_for PassesOwn.never rfl (pi_tup (pe_call GI hrI (by rfl) mI kI bI .nil pass0 (pa_cons (pv 3) pa_nil))) (pg_name (i := 4) nd rfl (.inl rfl)) (pss_one (ps_for PassesOwn.never rfl (pi_tup (pe_call GU hrU (by rfl) mU kU bU .nil pass0 (pa_cons (pv 4) pa_nil))) (pg_name (i := 5) nd rfl (.inl rfl)) (pss_one (ps_if (pt_cmp (pc_dnotin hu (pv 5) (pv 2))) (pss_one (ps_dput hu (pv 1) (pv 5) pe_bl rfl)) pss_nil))))) (pss_one (ps_if (pt_cmpR op_eq (pe_ix (r := rIxT K) ix_tup (pv 3) pe_int (fun _ _ => rfl)) pe_str (nomark _)) (pss_one (ps_dput hu (pv 2) (pe_ix (r := rIxT K) ix_tup (pv 3) pe_int (fun _ _ => rfl)) pe_bl rfl)) pss_nil)))) (pss_one (ps_ret (pe_tup (pa_cons (pv 1) (pa_cons (pv 2) pa_nil)))))))), ?_⟩
    refine fun ua hua => fun pa hpa => ?_
    have nup : ua ≠ pa := ne_of_none upd_same hpa
    have s2 := (same_new (o := .dK []) hua).trans (same_new (o := .dK []) hpa)
    have h2u : (upd (upd H ua (.dK [])) pa (.dK [])) ua = some (.dK []) := by
      rw [upd_ne nup]
      exact upd_same
    have h2p : (upd (upd H ua (.dK [])) pa (.dK [])) pa = some (.dK []) := upd_same
    have hpaH : H pa = none := by
      cases hz : H pa with
      | none => rfl
      | some o =>
        rw [same_new hua pa o hz] at hpa
        cases hpa
    generalize (upd (upd H ua (.dK [])) pa (.dK [])) = H2 at s2 h2u h2p ⊢
    refine ⟨_, rfl, a, _, _, _, rfl, rfl, .of (s2 _ _ ha), atI_nat (j := 1) rfl, sa, ss, rfl, .inl (.of (s2 _ _ hs)), _, rfl, a, _, _, _, rfl, rfl, .of (s2 _ _ ha), atI_nat (j := 2) rfl, ?_, fun l hl => ?_⟩
    · have h1 := ps.length
      have h2 := ok.2.1
      show (ss ++ [en]).length ≤ sizeLine
      rw [List.length_append, ← h1]
      exact Nat.le_of_lt (big (by show b.body.length + 1 ≤ 100000; omega))
    have s3 := s2.trans (same_new (o := .lst (ss ++ [en])) hl)
    have nul : ua ≠ l := ne_of_none h2u hl
    have npl : pa ≠ l := ne_of_none h2p hl
    have h3u : (upd H2 l (.lst (ss ++ [en]))) ua = some (.dK (kvOf [])) := by
      rw [upd_ne nul]
      exact h2u
    have h3p : (upd H2 l (.lst (ss ++ [en]))) pa = some (.dK (kvOf [])) := by
      rw [upd_ne npl]
      exact h2p
    have h3l : (upd H2 l (.lst (ss ++ [en]))) l = some (.lst (ss ++ [en])) := upd_same
    generalize (upd H2 l (.lst (ss ++ [en]))) = H3 at s3 h3u h3p h3l ⊢
    have its := its_at (b := b) ps he
    have iok := its_ok ok
    refine ⟨l, rfl, ⟨_, .of h3l⟩, for_list (K := K) (a := l) (xs := ss ++ [en]) (fun i σ H' => ∃ u p y3 y4 y5, σ = [some (.ref a), some (.ref ua), some (.ref pa), y3, y4, y5] ∧ K2 ua pa H3 H' ∧ H' ua = some (.dK (kvOf u)) ∧ H' pa = some (.dK (kvOf p)) ∧ Us u ∧ Us p ∧
        (∀ x, x ∈ u ↔ usedB x ((itsOf b).take i) = true) ∧ ∀ x, x ∈ p ↔ setB x ((itsOf b).take i) = true)
      ⟨[], [], none, none, none, rfl, fun b o e _ _ => e, h3u, h3p, Us.nil, Us.nil, fun x => (by simp [usedB]), fun x => (by simp [setB])⟩ ?_ ?_ ?_⟩
    · rintro i σ H' _ ⟨u, p, y3, y4, y5, _, k2, _⟩
      exact .of (k2 l _ h3l nul.symm npl.symm)
    · rintro i x σ H' hx ⟨u, p, y3, y4, y5, rfl, k2, hu', hp', us, up, mu, mp⟩
      obtain ⟨it, hit, at1⟩ := prd_get' its hx
      have itok := iok it (List.mem_of_getElem? hit)
      have t3 : Tups H H' := (Tups.of s3).trans (K2.tups k2 h3u h3p)
      have etk : (itsOf b).take (i + 1) = (itsOf b).take i ++ [it] := by
        rw [List.take_add_one, hit]
        rfl
      -- the expressions of the item
      refine ⟨_, rfl, x, it, rfl, at1.mono t3, fun t ex H4 s4 ht pex => ?_⟩
      have h4u := s4 _ _ hu'
      have h4p := s4 _ _ hp'
      have ntu : t ≠ ua := ne_of ht h4u (by intro z; cases z)
      have ntp : t ≠ pa := ne_of ht h4p (by intro z; cases z)
      refine ⟨t, rfl, ⟨_, .of ht⟩, for_tup (xs := ex) (fun j σ H' => ∃ u1 y4 y5, σ = [some (.ref a), some (.ref ua), some (.ref pa), some x, y4, y5] ∧ K2 ua pa H4 H' ∧ H' ua = some (.dK (kvOf u1)) ∧ H' pa = some (.dK (kvOf p)) ∧ Us u1 ∧
          ∀ z, z ∈ u1 ↔ z ∈ u ∨ (¬ z ∈ p ∧ z ∈ ((exps it).take j).flatMap nmE)) ⟨u, y4, y5, rfl, fun b o e _ _ => e, h4u, h4p, us, fun z => by simp⟩ ?_ ?_ ?_⟩
      · rintro j σ H5 _ ⟨u1, y4, y5, _, k5, _⟩
        exact .of (k5 t _ ht ntu ntp)
      · rintro j y σ H5 hy ⟨u1, y4, y5, rfl, k5, h5u, h5p, us1, mu1⟩
        obtain ⟨e, he1, ate⟩ := prd_get' pex hy
        have oke := itok.1 e (List.mem_of_getElem? he1)
        have ejk : ((exps it).take (j + 1)).flatMap nmE = ((exps it).take j).flatMap nmE ++ nmE e := by
          rw [List.take_add_one, he1, List.flatMap_append]
          simp
        refine ⟨_, rfl, y, e, _, rfl, ate.mono (K2.tups k5 h4u h4p), oke, fun ul t2 H6 hul s6 ht2 fr6 => ?_⟩
        have h6u := s6 _ _ h5u
        have h6p := s6 _ _ h5p
        have nt2u : t2 ≠ ua := ne_of ht2 h6u (by intro z; cases z)
        have nt2p : t2 ≠ pa := ne_of ht2 h6p (by intro z; cases z)
        refine ⟨t2, rfl, ⟨_, .of ht2⟩, for_tup (xs := iv ul) (fun k σ H' => ∃ u2 y5, σ = [some (.ref a), some (.ref ua), some (.ref pa), some x, some y, y5] ∧ K2 ua pa H6 H' ∧ H' ua = some (.dK (kvOf u2)) ∧ H' pa = some (.dK (kvOf p)) ∧ Us u2 ∧
            ∀ z, z ∈ u2 ↔ z ∈ u1 ∨ (¬ z ∈ p ∧ z ∈ ul.take k)) ⟨u1, y5, rfl, fun b o e _ _ => e, h6u, h6p, us1, fun z => by simp⟩ ?_ ?_ ?_⟩
        · rintro k σ H7 _ ⟨u2, y5, _, k7, _⟩
          exact .of (k7 t2 _ ht2 nt2u nt2p)
        · rintro k zv σ H7 hz ⟨u2, y5, rfl, k7, h7u, h7p, us2, mu2⟩
          have hk : k < ul.length := by
            have := (List.getElem?_eq_some_iff.mp hz).1
            rw [List.length_map] at this
            exact this
          obtain rfl : zv = .int (ul[k] : Int) := by
            rw [iv_get hk] at hz
            exact (Option.some.inj hz).symm
          have zu : ul[k] ∈ uni := nmE_uni oke.1 _ ((hul.2 _).mp (List.getElem_mem hk))
          have etake : ∀ z, z ∈ ul.take (k + 1) ↔ z ∈ ul.take k ∨ z = ul[k] := fun z => by
            rw [List.take_add_one, List.getElem?_eq_getElem hk, List.mem_append]
            simp
          refine ⟨_, rfl, _, rfl, pa, _, rfl, DGet.k (k := Sum.inl (ul[k] : Int)) h7p, _, rfl, ?_⟩
          rw [valV_kvOf]
          by_cases hin : ul[k] ∈ p
          · rw [if_pos hin]
            refine iteF ?_
            refine ⟨_, _, rfl, k7, h7u, h7p, us2, fun z => ?_⟩
            rw [mu2, etake]
            constructor
            · rintro (h | ⟨h1, h2⟩)
              · exact .inl h
              · exact .inr ⟨h1, .inl h2⟩
            · rintro (h | ⟨h1, h2 | h2⟩)
              · exact .inl h
              · exact .inr ⟨h1, h2⟩
              · exact absurd (by rw [h2]; exact hin) h1
          · rw [if_neg hin]
            refine iteT ?_
            have l10 := us2.len
            refine ⟨_, rfl, _, rfl, ua, _, rfl, DPut.k (k := Sum.inl (ul[k] : Int)) h7u (big (by unfold kvOf; rw [List.length_map]; omega)), ?_⟩
            refine ⟨ins u2 ul[k], _, rfl, fun b o e n1 n2 => by rw [upd_ne n1]; exact k7 b o e n1 n2, by rw [upd_same, put_kvOf], by rw [upd_ne nup.symm]; exact h7p, us2.ins zu, fun z => ?_⟩
            rw [mem_ins, mu2, etake]
            constructor
            · rintro ((h | ⟨h1, h2⟩) | h)
              · exact .inl h
              · exact .inr ⟨h1, .inl h2⟩
              · exact .inr ⟨by rw [h]; exact hin, .inr h⟩
            · rintro (h | ⟨h1, h2 | h2⟩)
              · exact .inl (.inl h)
              · exact .inl (.inr ⟨h1, h2⟩)
              · exact .inr h2
        · rintro σ H7 ⟨u2, y5, rfl, k7, h7u, h7p, us2, mu2⟩
          refine ⟨u2, _, _, rfl, fun b o e n1 n2 => k7 b o (s6 b o (k5 b o e n1 n2)) n1 n2, h7u, h7p, us2, fun z => ?_⟩
          rw [mu2, mu1, ejk, List.mem_append, List.length_map, List.take_length, hul.2 z]
          constructor
          · rintro ((h | ⟨h1, h2⟩) | ⟨h1, h2⟩)
            · exact .inl h
            · exact .inr ⟨h1, .inl h2⟩
            · exact .inr ⟨h1, .inr h2⟩
          · rintro (h | ⟨h1, h2 | h2⟩)
            · exact .inl (.inl h)
            · exact .inl (.inr ⟨h1, h2⟩)
            · exact .inr ⟨h1, h2⟩
      · rintro σ H5 ⟨u1, y4, y5, rfl, k5, h5u, h5p, us1, mu1⟩
        have el : (exps it).take ex.length = exps it := by
          rw [← pex.length]
          exact List.take_length
        rw [el] at mu1
        have mu1' : ∀ z, z ∈ u1 ↔ usedB z ((itsOf b).take (i + 1)) = true := fun z => by
          rw [mu1, etk, usedB_snoc, Bool.or_eq_true, Bool.and_eq_true, Bool.not_eq_true', decide_eq_true_eq, ← mu z]
          have e2 : setB z ((itsOf b).take i) = false ↔ ¬ z ∈ p := by
            rw [mp z]
            simp
          rw [e2]
        have at5 := at1.mono (t3.trans ((Tups.of s4).trans (K2.tups k5 h4u h4p)))
        have kk : K2 ua pa H3 H5 := fun b o e n1 n2 => k5 b o (s4 b o (k2 b o e n1 n2)) n1 n2
        -- item[0] == "set"
        cases it with
        | inl sm =>
          cases sm with
          | set y e =>
            obtain ⟨c, v1, rfl, hc, _⟩ := at5
            have yu : y ∈ uni := itok.2 y rfl
            have l10 := up.len
            refine ⟨_, rfl, c, _, _, _, rfl, rfl, .of hc, atI_nat (j := 0) rfl, rfl, _, rfl, ite2 (fun _ => ?_) (fun e => absurd dT e)⟩
            refine ⟨_, rfl, _, rfl, c, _, _, _, rfl, rfl, .of hc, atI_nat (j := 1) rfl, pa, _, rfl, DPut.k (k := Sum.inl (y : Int)) h5p (big (by unfold kvOf; rw [List.length_map]; omega)), ?_⟩
            refine ⟨u1, ins p y, _, _, _, rfl, fun b o e n1 n2 => by rw [upd_ne n2]; exact kk b o e n1 n2, by rw [upd_ne nup]; exact h5u, by rw [upd_same, put_kvOf], us1, up.ins yu, mu1', fun z => ?_⟩
            rw [mem_ins, mp, etk, setB_snoc, Bool.or_eq_true, decide_eq_true_eq]
            show _ ↔ _ ∨ some y = some z
            exact ⟨fun h => h.elim .inl fun e => .inr (by rw [e]), fun h => h.elim .inl fun e => .inr (Option.some.inj e).symm⟩
          | write e =>
            obtain ⟨c, v1, rfl, hc, _⟩ := at5
            refine ⟨_, rfl, c, _, _, _, rfl, rfl, .of hc, atI_nat (j := 0) rfl, rfl, _, rfl, ite2 (fun e => absurd e (dN (by decide +kernel))) (fun _ => ?_)⟩
            refine ⟨u1, p, _, _, _, rfl, kk, h5u, h5p, us1, up, mu1', fun z => ?_⟩
            rw [mp, etk, setB_snoc]
            simp [setsV]
          | store y e =>
            obtain ⟨c, v1, v2, rfl, hc, _⟩ := at5
            refine ⟨_, rfl, c, _, _, _, rfl, rfl, .of hc, atI_nat (j := 0) rfl, rfl, _, rfl, ite2 (fun e => absurd e (dN (by decide +kernel))) (fun _ => ?_)⟩
            refine ⟨u1, p, _, _, _, rfl, kk, h5u, h5p, us1, up, mu1', fun z => ?_⟩
            rw [mp, etk, setB_snoc]
            simp [setsV]
        | inr sm =>
          have hset : ∀ z, z ∈ p ↔ setB z ((itsOf b).take (i + 1)) = true := fun z => by
            rw [mp, etk, setB_snoc]
            simp [setsV]
          cases sm with
          | go l =>
            obtain ⟨c, rfl, hc⟩ := at5
            refine ⟨_, rfl, c, _, _, _, rfl, rfl, .of hc, atI_nat (j := 0) rfl, rfl, _, rfl, ite2 (fun e => absurd e (dN (by decide +kernel))) (fun _ => ?_)⟩
            exact ⟨u1, p, _, _, _, rfl, kk, h5u, h5p, us1, up, mu1', hset⟩
          | iff e l m =>
            obtain ⟨c, v1, rfl, hc, _⟩ := at5
            refine ⟨_, rfl, c, _, _, _, rfl, rfl, .of hc, atI_nat (j := 0) rfl, rfl, _, rfl, ite2 (fun e => absurd e (dN (by decide +kernel))) (fun _ => ?_)⟩
            exact ⟨u1, p, _, _, _, rfl, kk, h5u, h5p, us1, up, mu1', hset⟩
          | ret e =>
            obtain ⟨c, v1, rfl, hc, _⟩ := at5
            refine ⟨_, rfl, c, _, _, _, rfl, rfl, .of hc, atI_nat (j := 0) rfl, rfl, _, rfl, ite2 (fun e => absurd e (dN (by decide +kernel))) (fun _ => ?_)⟩
            exact ⟨u1, p, _, _, _, rfl, kk, h5u, h5p, us1, up, mu1', hset⟩
    · rintro σ H' ⟨u, p, y3, y4, y5, rfl, k2, hu', hp', us, up, mu, mp⟩
      have el : (itsOf b).take (ss ++ [en]).length = itsOf b := by
        rw [← its.length]
        exact List.take_length
      rw [el] at mu mp
      refine ⟨_, rfl, _, rfl, (by show 2 ≤ sizeLine; decide), fun r hr' => ?_⟩
      have sr := same_new (o := .tup [.ref ua, .ref pa]) hr'
      exact q r ua pa u p _ (fun b o e => sr b o (k2 b o (s3 b o e) (ne_of_none e hua) (ne_of_none e hpaH))) upd_same (sr _ _ hu') (sr _ _ hp') us up mu mp hua hpaH nup
end
end K0

set_option Elab.async false
set_option linter.all false
set_option maxRecDepth 100000
set_option maxHeartbeats 1000000
namespace K0
open PySem L2
abbrev NFi : List Str := ["block", "v", "s", "parts", "part"]
def exD : Ex → PyData
  | .int n => .tuple [.str "int", .int (n : Int)]
  | .var x => .tuple [.str "var", .int (x : Int)]
  | .load e => .tuple [.str "load", exD e]
  | .one op e => .tuple [.str op, exD e]
  | .two op e f => .tuple [.str op, exD e, exD f]
theorem dp_ex {K : PySem.W.Frag} {H : Hp} : ∀ {e : Ex} {v : V}, ExAt H e v → Dp K H v (exD e)
  | .int n, v, ⟨a, e1, e2⟩ => by
    subst e1
    exact .tup (.inl (.of e2)) (.cons (.str _) (.cons (.int _) .nil))
  | .var n, v, ⟨a, e1, e2⟩ => by
    subst e1
    exact .tup (.inl (.of e2)) (.cons (.str _) (.cons (.int _) .nil))
  | .load e, v, ⟨a, u, e1, e2, h⟩ => by
    subst e1
    exact .tup (.inl (.of e2)) (.cons (.str _) (.cons (dp_ex h) .nil))
  | .one op e, v, ⟨a, u, e1, e2, h⟩ => by
    subst e1
    exact .tup (.inl (.of e2)) (.cons (.str _) (.cons (dp_ex h) .nil))
  | .two op e f, v, ⟨a, u, y, e1, e2, h, h2⟩ => by
    subst e1
    exact .tup (.inl (.of e2)) (.cons (.str _) (.cons (dp_ex h) (.cons (dp_ex h2) .nil)))
theorem strOks : ∀ op ∈ ((["int", "var", "load", "not", "neg"] : List Str) ++ tenS), PyData.strOk op = true := by decide +kernel
theorem can_ex {W : Nat} : ∀ {e : Ex}, EOk W e → (exD e).canLay0 = true
  | .int n, _ => by simp [exD, PyData.canLay0, PyData.canLayAll0, strOks "int" (by decide +kernel)]
  | .var n, _ => by simp [exD, PyData.canLay0, PyData.canLayAll0, strOks "var" (by decide +kernel)]
  | .load e, ok => by simp [exD, PyData.canLay0, PyData.canLayAll0, strOks "load" (by decide +kernel), can_ex (e := e) ok]
  | .one op e, ok => by
    have h : PyData.strOk op = true := by
      rcases ok.1 with rfl | rfl <;> decide +kernel
    simp [exD, PyData.canLay0, PyData.canLayAll0, h, can_ex (e := e) ok.2]
  | .two op e f, ok => by
    simp [exD, PyData.canLay0, PyData.canLayAll0, strOks op (List.mem_append_right _ ok.1), can_ex (e := e) ok.2.1, can_ex (e := f) ok.2.2]
theorem dep_ex : ∀ e : Ex, (exD e).depth ≤ e.deep
  | .int n => by simp [exD, PyData.depth, PyData.depthAll, Ex.deep]
  | .var n => by simp [exD, PyData.depth, PyData.depthAll, Ex.deep]
  | .load e => by
    have := dep_ex e
    simp [exD, PyData.depth, PyData.depthAll, Ex.deep]
    omega
  | .one op e => by
    have := dep_ex e
    simp [exD, PyData.depth, PyData.depthAll, Ex.deep]
    omega
  | .two op e f => by
    have := dep_ex e
    have := dep_ex f
    simp [exD, PyData.depth, PyData.depthAll, Ex.deep]
    omega
theorem sh_exs {W : Nat} {l : List Ex} (h : ∀ e ∈ l, E3 W e) : SeqAt.shaped (.list (l.map exD)) = true := by
  have c : PyData.canLayAll0 (l.map exD) = true ∧ PyData.depthAll (l.map exD) ≤ 3 := by
    induction l with
    | nil => exact ⟨rfl, by simp [PyData.depthAll]⟩
    | cons x r ih =>
      obtain ⟨a, b⟩ := ih fun e he => h e (List.mem_cons_of_mem _ he)
      have hx := h x List.mem_cons_self
      have := dep_ex x
      have := hx.2
      refine ⟨by simp [PyData.canLayAll0, can_ex hx.1, a], ?_⟩
      simp [PyData.depthAll]
      omega
  unfold SeqAt.shaped
  have h1 : PyData.canLay0 (.list (l.map exD)) = true := by simp [PyData.canLay0, c.1]
  have h2 : PyData.depth (.list (l.map exD)) ≤ 64 := by
    simp [PyData.depth]
    omega
  rw [h1, decide_eq_true h2]
  rfl
theorem eqv_exs (l : List Ex) : PyData.eqv (.list (l.map exD)) (.list []) = l.isEmpty := by
  cases l <;> rfl
theorem dp_exs {K : PySem.W.Frag} {H : Hp} : ∀ {es : List Ex} {vs : List V}, Paired (ExAt H) es vs → DpAll K H vs (es.map exD)
  | _, _, .nil => .nil
  | _, _, .cons a t => .cons (dp_ex a) (dp_exs t)
theorem in_iv (x : Nat) : ∀ l : List Nat, inV (.int (x : Int)) (iv l) = decide (x ∈ l)
  | [] => rfl
  | y :: r => by
    show (eqV (.int (y : Int)) (.int (x : Int)) || inV (.int (x : Int)) (iv r)) = _
    rw [in_iv x r]
    have e : eqV (.int (y : Int)) (.int (x : Int)) = decide (y = x) := by
      show ((y : Int) == (x : Int)) = _
      by_cases h : y = x
      · simp [h]
      · rw [decide_eq_false h]
        exact beq_eq_false_iff_ne.mpr (by omega)
    rw [e]
    by_cases h : y = x
    · simp [h]
    · have h' : ¬ x = y := fun z => h z.symm
      simp [h, h']
theorem flat_iv : ∀ l : List Nat, (iv l).all flatV = true
  | [] => rfl
  | x :: r => flat_iv r
def firstS (b : Bl) (v : Nat) : Str := if usedB v (itsOf b) = true then "use" else if setB v (itsOf b) = true then "set" else "nothing"
def spFirst : Sp := fun vs H Q _ => ∃ (bv : V) (b : Bl) (v W mo : Nat) (ls : List Nat), vs = [bv, .int (v : Int)] ∧ BlAt H b bv ∧ BlOk W mo ls b ∧ ∀ H', Same H H' → Q (.str (firstS b v)) H'
theorem nmE_len {W : Nat} : ∀ {e : Ex} {n : Nat}, e.deep ≤ n + 1 → (nmE e).length ≤ 2 ^ n
  | .int _, n, _ => Nat.zero_le _
  | .var _, n, _ => Nat.one_le_two_pow
  | .load e, n, h => by
    have h1 : e.deep + 1 ≤ n + 1 := h
    obtain ⟨m, rfl⟩ : ∃ m, n = m + 1 := ⟨n - 1, by have := Ex.deep_pos e; omega⟩
    have := nmE_len (W := W) (e := e) (n := m) (by omega)
    show (nmE e).length ≤ _
    rw [Nat.pow_succ]
    omega
  | .one op e, n, h => by
    have h1 : e.deep + 1 ≤ n + 1 := h
    obtain ⟨m, rfl⟩ : ∃ m, n = m + 1 := ⟨n - 1, by have := Ex.deep_pos e; omega⟩
    have := nmE_len (W := W) (e := e) (n := m) (by omega)
    show (nmE e).length ≤ _
    rw [Nat.pow_succ]
    omega
  | .two op e f, n, h => by
    have h1 : max e.deep f.deep + 1 ≤ n + 1 := h
    obtain ⟨m, rfl⟩ : ∃ m, n = m + 1 := ⟨n - 1, by have := Ex.deep_pos e; omega⟩
    have := nmE_len (W := W) (e := e) (n := m) (by omega)
    have := nmE_len (W := W) (e := f) (n := m) (by omega)
    show (nmE e ++ nmE f).length ≤ _
    rw [List.length_append, Nat.pow_succ]
    omega
theorem nmE_small {W : Nat} {e : Ex} (h : E3 W e) : (nmE e).length ≤ 1000 := Nat.le_trans (nmE_len (W := W) (n := 2) h.2) (by decide)
/-- the names of expressions as they are asked -/
structure GotNm (P : Program) (w : World) (K : PySem.W.Frag) (mg : Str → Option Value) (base : Heap) : Prop where
  ex : ∃ (f : Addr) (fd : FuncData), (∀ n, FnOk P w K mg base CX0 (1 + n) f fd ["e"] (spNames n)) ∧ mg "_law_names" = some (.ref f) ∧ PySem.W.keepIn K (.ref f) = true ∧ Binds K fd ["e"] []
theorem prd_app {α β : Type} {F : α → β → Prop} : ∀ {xs xs2 : List α} {ys ys2 : List β}, Paired F xs ys → Paired F xs2 ys2 → Paired F (xs ++ xs2) (ys ++ ys2)
  | _, _, _, _, .nil, h => h
  | _, _, _, _, .cons a t, h => .cons a (prd_app t h)
theorem sput {H H' : Hp} {p : Addr} {o : HO} (s : Same H H') (h : H p = none) : Same H (upd H' p o) := fun b u e => by
  rw [upd_ne (ne_of_none e h)]
  exact s b u e
section
variable {P : Program} {w : World} {K : PySem.W.Frag} {mg : Str → Option Value} {base : Heap}
theorem scFirst : FnScope NFi ["block", "v"] (defScope sFirst) := ⟨rfl, rfl, rfl, by decide +kernel, rfl, by decide +kernel, by decide +kernel⟩
theorem ok_first {f : Addr} {fd : FuncData} (F : Fun K "_law_first" "_law_first" sFirst f fd) (GN : GotNm P w K mg base) : FnOk P w K mg base CX0 5 f fd ["block", "v"] spFirst := by
  obtain ⟨fN, fdN, GNn, mN, kN, bN⟩ := GN.ex
  have GN := GNn 3
  refine F.ok scFirst (fun vs H Q E h => ?_) (fun cdv A outer s H vs Q E hr h => ?_)
  · obtain ⟨bv, b, v, W, mo, ls, rfl, _⟩ := h
    rfl
  · obtain ⟨bv, b, v, W, mo, ls, rfl, ⟨a, sa, en, ss, rfl, ha, hs, ps, he⟩, ok, q⟩ := h
    have nd := scFirst.nd
    have hrN : Room (1 + 3) _ := hr
    refine ⟨_, (pss_cons (ps_for PassesOwn.never rfl (pi_tup (pe_ix (r := rIxT K) ix_tup (pv 0) pe_int (fun _ _ => rfl))) (pg_name (i := 2) nd rfl (.inl rfl)) (C8.pss_cut (ps_set (i := 3) nd rfl (.inl rfl) (pe_ifExp (pt_cmpR op_eq (pe_ix (r := rIxT K) ix_tup (pv 2) pe_int (fun _ _ => rfl)) pe_str (nomark _)) (pe_slice sl_tup (pv 2) (po_some pe_int) po_none) (pe_slice sl_tup (pv 2) (po_some pe_int) po_none))) (pss_cons (ps_if (pt_cmpR (op_neD hr.units) (pe_lc (own := [("part", 4)]) (g := gName 4) (tt := _) rfl nd (pi_tup (pv 3)) (blkOk_by (N := NFi) (sc := defScope sFirst) (by decide +kernel)) (fun _ _ _ _ _ => pg_name (i := 4) nd rfl (.inl rfl)) (fun _ _ _ _ _ => (pts_one (pt_cmpR (r := rIn K false) op_in_seq (pv 1) (pe_call GN hrN (by rfl) mN kN bN .nil pass0 (pa_cons (pv 4) pa_nil)) rfl))) (fun _ _ _ _ _ => (pv 4))) (pe_lst pa_nil) (nomark _)) (pss_one (ps_ret pe_str)) pss_nil) (pss_one (ps_if (PW.pt (pw_and (pt_cmpR op_eq (pe_ix (r := rIxT K) ix_tup (pv 2) pe_int (fun _ _ => rfl)) pe_str (nomark _)) (pw_and1 (pt_cmpR op_eq (pe_ix (r := rIxT K) ix_tup (pv 2) pe_int (fun _ _ => rfl)) (pv 1) (nomark _))))) (pss_one (ps_ret pe_str)) pss_nil))))) (pss_cons (ps_if (PW.pt (pw_and (pt_cmpR op_in_seq (pe_ix (r := rIxT K) ix_tup (pe_ix (r := rIxT K) ix_tup (pv 0) pe_int (fun _ _ => rfl)) pe_int (fun _ _ => rfl)) (pe_lst (pa_cons pe_str (pa_cons pe_str pa_nil))) rfl) (pw_and1 (pt_cmpR op_in_seq (pv 1) (pe_call GN hrN (by rfl) mN kN bN .nil pass0 (pa_cons (pe_ix (r := rIxT K) ix_tup (pe_ix (r := rIxT K) ix_tup (pv 0) pe_int (fun _ _ => rfl)) pe_int (fun _ _ => rfl)) pa_nil)) rfl)))) (pss_one (ps_ret pe_str)) pss_nil) (pss_one (ps_ret pe_str)))), ?_⟩
    have iok := its_ok ok
    have its := its_at (b := b) ps he
    -- what is known behind some statements
    refine ⟨_, rfl, a, _, _, _, rfl, rfl, .of ha, atI_nat (j := 1) rfl, sa, rfl, ⟨_, .of hs⟩, for_tup (xs := ss) (fun i σ H' => ∃ y2 y3 y4, σ = [some (.ref a), some (.int (v : Int)), y2, y3, y4] ∧ Same H H' ∧ usedB v ((itsOf b).take i) = false ∧ setB v ((itsOf b).take i) = false)
      ⟨none, none, none, rfl, Same.refl _, rfl, rfl⟩ ?_ ?_ ?_⟩
    · rintro i σ H' _ ⟨y2, y3, y4, _, sm, _⟩
      exact .of (sm _ _ hs)
    · rintro i x σ H1 hx ⟨y2, y3, y4, rfl, s1, hu0, hs0⟩
      obtain ⟨sm, hsm, at1⟩ := prd_get' ps hx
      have il : i < b.body.length := (List.getElem?_eq_some_iff.mp hsm).1
      have hit : (itsOf b)[i]? = some (.inl sm) := by
        unfold itsOf
        rw [List.getElem?_append_left (by rw [List.length_map]; exact il), List.getElem?_map, hsm]
        rfl
      have itok := iok _ (List.mem_of_getElem? hit)
      have etk : (itsOf b).take (i + 1) = (itsOf b).take i ++ [.inl sm] := by
        rw [List.take_add_one, hit]
        rfl
      have hcut : itsOf b = ((itsOf b).take i ++ [.inl sm]) ++ (itsOf b).drop (i + 1) := by
        rw [← etk, List.take_append_drop]
      have hused : ∀ c d : List It, usedB v (c ++ d) = (usedB v c || (!setB v c && usedB v d)) := fun c d => by
        induction c with
        | nil => simp [usedB, setB]
        | cons y r ih =>
          show (decide _ || (!decide _ && usedB v (r ++ d))) = (decide _ || (!decide _ && usedB v r) || (!(decide (setsV y = some v) || setB v r) && _))
          rw [ih]
          cases decide (v ∈ (exps y).flatMap nmE) <;> cases decide (setsV y = some v) <;> cases usedB v r <;> cases setB v r <;> rfl
      -- the statement's parts
      refine ⟨fun σ' H2 => ∃ us p y4, σ' = [some (.ref a), some (.int (v : Int)), some x, some (.ref p), y4] ∧ Same H H2 ∧ H2 p = some (.tup us) ∧ Paired (ExAt H2) (exps (.inl sm)) us, ?_, ?_⟩
      · have at2 := at1.mono (Tups.of s1)
        cases sm with
        | set y e =>
          obtain ⟨c, u, rfl, hc, hu⟩ := at2
          refine ⟨_, rfl, c, _, _, _, rfl, rfl, .of hc, atI_nat (j := 0) rfl, rfl, _, rfl, ite2 (fun _ => ?_) (fun e => absurd dT e)⟩
          refine ⟨_, rfl, _, rfl, c, _, rfl, .inl (.of hc), nw2 _ _ _, fun p hp => ?_⟩
          exact ⟨[u], p, _, rfl, s1.trans (same_new hp), upd_same, .cons (hu.mono (Tups.of (same_new hp))) .nil⟩
        | write e =>
          obtain ⟨c, u, rfl, hc, hu⟩ := at2
          refine ⟨_, rfl, c, _, _, _, rfl, rfl, .of hc, atI_nat (j := 0) rfl, rfl, _, rfl, ite2 (fun e => absurd e (dN (by decide +kernel))) (fun _ => ?_)⟩
          refine ⟨_, rfl, _, rfl, c, _, rfl, .inl (.of hc), nw1 _ _, fun p hp => ?_⟩
          exact ⟨[u], p, _, rfl, s1.trans (same_new hp), upd_same, .cons (hu.mono (Tups.of (same_new hp))) .nil⟩
        | store z e =>
          obtain ⟨c, u, u2, rfl, hc, hu, hu2⟩ := at2
          refine ⟨_, rfl, c, _, _, _, rfl, rfl, .of hc, atI_nat (j := 0) rfl, rfl, _, rfl, ite2 (fun e => absurd e (dN (by decide +kernel))) (fun _ => ?_)⟩
          refine ⟨_, rfl, _, rfl, c, _, rfl, .inl (.of hc), nw1 _ _, fun p hp => ?_⟩
          exact ⟨[u, u2], p, _, rfl, s1.trans (same_new hp), upd_same, .cons (hu.mono (Tups.of (same_new hp))) (.cons (hu2.mono (Tups.of (same_new hp))) .nil)⟩
      · rintro σ' H2 ⟨us, p, y5, rfl, s2, hp, pus⟩
        have hlen2 : us.length ≤ 2 := by
          rw [← pus.length]
          cases sm <;> simp [exps]
        refine ⟨_, rfl, p, rfl, ⟨_, .of hp⟩, fun D hD => lc_tup (xs := us) (fun j H4 => ∃ (ys : List V) (es : List Ex), H4 D = some (.lst ys) ∧ Paired (ExAt H4) es ys ∧ (∀ e ∈ es, E3 W e) ∧ ys.length ≤ j ∧ (es.isEmpty = true ↔ ¬ v ∈ ((exps (.inl sm)).take j).flatMap nmE) ∧ Same H2 H4)
          ⟨[], [], upd_same, .nil, (fun e h => by cases h), Nat.le_refl _, by simp, same_new hD⟩ ?_ ?_ ?_⟩
        · rintro j H4 _ ⟨ys, es, _, _, _, _, _, s4⟩
          exact .of (s4 _ _ hp)
        · rintro j y H4 hy ⟨ys, es, hD4, pys, oks, lys, emp, s4⟩
          obtain ⟨e1, he1, ate⟩ := prd_get' pus hy
          have jl : j < us.length := (List.getElem?_eq_some_iff.mp hy).1
          have oke := itok.1 e1 (List.mem_of_getElem? he1)
          have ejk : ((exps (.inl sm)).take (j + 1)).flatMap nmE = ((exps (.inl sm)).take j).flatMap nmE ++ nmE e1 := by
            rw [List.take_add_one, he1, List.flatMap_append]
            simp
          refine ⟨rfl, ?_⟩
          refine ⟨_, rfl, _, rfl, y, e1, W, rfl, ate.mono (Tups.of s4), oke.1, Nat.le_trans oke.2 (by decide), nmE_small oke, fun p2 H5 s5 hp2 _ => ⟨p2, _, rfl, .inl (.of hp2), rfl, flat_iv _, _, rfl, ?_⟩⟩
          have hD5 := s5 _ _ hD4
          rw [show (if false = true then !inV (V.int (v : Int)) (iv (nmE e1)) else inV (V.int (v : Int)) (iv (nmE e1))) = decide (v ∈ nmE e1) from in_iv v _]
          refine ite2 (fun hin => ?_) (fun hin => ?_)
          · refine ⟨_, rfl, ys, hD5, big (by omega), ys ++ [y], es ++ [e1], upd_same, ?_, ?_, ?_, ?_, sput (s4.trans s5) hD⟩
            · have t5 := Tups.lst (ys := ys ++ [y]) hD5
              exact prd_app (L2.Paired.mapP pys fun _ _ h => ExAt.mono ((Tups.of s5).trans t5) h) (.cons (ate.mono ((Tups.of (s4.trans s5)).trans t5)) .nil)
            · intro e he
              rcases List.mem_append.mp he with h | h
              · exact oks e h
              · rw [List.mem_singleton.mp h]
                exact oke
            · rw [List.length_append, List.length_singleton]
              omega
            · rw [ejk]
              have hm := of_decide_eq_true hin
              constructor
              · intro h
                cases es <;> cases h
              · intro h
                exact absurd (List.mem_append_right _ hm) h
          · have hm : ¬ v ∈ nmE e1 := fun z => hin (decide_eq_true z)
            refine ⟨ys, es, hD5, L2.Paired.mapP pys fun _ _ h => ExAt.mono (Tups.of s5) h, oks, by omega, ?_, s4.trans s5⟩
            rw [emp, ejk, List.mem_append]
            exact ⟨fun h z => z.elim h hm, fun h z => h (.inl z)⟩
        · rintro H4 ⟨ys, es, hD4, pys, oks, lys, emp, s4⟩
          have eall : (exps (.inl sm)).take us.length = exps (.inl sm) := by
            rw [← pus.length]
            exact List.take_length
          rw [eall] at emp
          refine ⟨(by show 0 ≤ sizeLine; decide), fun q1 hq1 => ?_⟩
          have s5 := same_new (o := .lst []) hq1
          refine ⟨.list (es.map exD), .list [], .lst (.of (s5 _ _ hD4)) (dp_exs (L2.Paired.mapP pys fun _ _ h => ExAt.mono (Tups.of s5) h)), .lst (.of upd_same) .nil, sh_exs oks, by decide +kernel, _, rfl, ?_⟩
          rw [eqv_exs]
          have sAll := (s2.trans s4).trans s5
          by_cases hv : v ∈ (exps (.inl sm)).flatMap nmE
          · have hne : es.isEmpty = false := by
              cases hz : es.isEmpty with
              | false => rfl
              | true => exact absurd hv (emp.mp hz)
            rw [hne]
            refine iteT ?_
            have hu1 : usedB v (itsOf b) = true := by
              rw [hcut, hused, usedB_snoc, hu0, hs0, decide_eq_true hv]
              rfl
            have := q _ sAll
            unfold firstS at this
            rw [if_pos hu1] at this
            exact this
          · have hne : es.isEmpty = true := emp.mpr hv
            rw [hne]
            refine iteF ?_
            have hu1 : usedB v ((itsOf b).take (i + 1)) = false := by
              rw [etk, usedB_snoc, hu0, hs0, decide_eq_false hv]
              rfl
            have at5 := at1.mono (Tups.of sAll)
            cases sm with
            | set y e =>
              obtain ⟨c, u, rfl, hc, hu⟩ := at5
              refine ⟨_, rfl, c, _, _, _, rfl, rfl, .of hc, atI_nat (j := 0) rfl, rfl, _, rfl, ite2 (fun _ => ?_) (fun e => absurd dT e)⟩
              refine ⟨_, rfl, c, _, _, _, rfl, rfl, .of hc, atI_nat (j := 1) rfl, _, rfl, rfl, _, rfl, ite2 (fun e => ?_) (fun e => ?_)⟩
              · have eyv : y = v := by
                  have := V.int.inj (of_decide_eq_true e)
                  omega
                subst eyv
                have hs1 : setB y (itsOf b) = true := by
                  unfold setB
                  rw [List.any_eq_true]
                  exact ⟨_, List.mem_of_getElem? hit, decide_eq_true rfl⟩
                have hu2 : ¬ usedB y (itsOf b) = true := by
                  rw [hcut, hused, ← etk, hu1, etk, setB_snoc]
                  simp [setsV]
                have := q _ sAll
                unfold firstS at this
                rw [if_neg hu2, if_pos hs1] at this
                exact this
              · refine ⟨_, _, _, rfl, sAll, hu1, ?_⟩
                rw [etk, setB_snoc, hs0]
                refine decide_eq_false fun z => e (decide_eq_true ?_)
                rw [Option.some.inj z]
            | write e0 =>
              obtain ⟨c, u, rfl, hc, hu⟩ := at5
              refine ⟨_, rfl, c, _, _, _, rfl, rfl, .of hc, atI_nat (j := 0) rfl, rfl, _, rfl, ite2 (fun e => absurd e (dN (by decide +kernel))) (fun _ => iteF ?_)⟩
              refine ⟨_, _, _, rfl, sAll, hu1, ?_⟩
              rw [etk, setB_snoc, hs0]
              rfl
            | store z e0 =>
              obtain ⟨c, u, u2, rfl, hc, hu, hu2⟩ := at5
              refine ⟨_, rfl, c, _, _, _, rfl, rfl, .of hc, atI_nat (j := 0) rfl, rfl, _, rfl, ite2 (fun e => absurd e (dN (by decide +kernel))) (fun _ => iteF ?_)⟩
              refine ⟨_, _, _, rfl, sAll, hu1, ?_⟩
              rw [etk, setB_snoc, hs0]
              rfl
    · rintro σ H1 ⟨y2, y3, y4, rfl, s1, hu0, hs0⟩
      have ebody : (itsOf b).take ss.length = b.body.map .inl := by
        unfold itsOf
        rw [← ps.length, List.take_append_of_le_length (by rw [List.length_map]; exact Nat.le_refl _), List.take_of_length_le (by rw [List.length_map]; exact Nat.le_refl _)]
      rw [ebody] at hu0 hs0
      have hset : ¬ setB v (itsOf b) = true := by
        unfold itsOf
        rw [setB_snoc, hs0]
        simp [setsV]
      have huse : usedB v (itsOf b) = decide (v ∈ (exps (.inr b.fin)).flatMap nmE) := by
        unfold itsOf
        rw [usedB_snoc, hu0, hs0]
        rfl
      have ha1 := s1 _ _ ha
      have he1 := he.mono (Tups.of s1)
      have okf := iok (.inr b.fin) (by unfold itsOf; exact List.mem_append_right _ List.mem_cons_self)
      have qn : ∀ H', Same H H' → ¬ usedB v (itsOf b) = true → Q (.str "nothing") H' := fun H' s h => by
        have := q H' s
        unfold firstS at this
        rw [if_neg h, if_neg hset] at this
        exact this
      have qu : ∀ H', Same H H' → usedB v (itsOf b) = true → Q (.str "use") H' := fun H' s h => by
        have := q H' s
        unfold firstS at this
        rw [if_pos h] at this
        exact this
      cases hf : b.fin with
      | go l =>
        rw [hf] at he1 huse
        obtain ⟨c, rfl, hc⟩ := he1
        refine ⟨_, rfl, a, _, _, _, rfl, rfl, .of ha1, atI_nat (j := 2) rfl, c, _, _, _, rfl, rfl, .of hc, atI_nat (j := 0) rfl, (by show 2 ≤ sizeLine; decide), fun p1 hp1 => ⟨p1, _, rfl, .inl (.of upd_same), rfl, rfl, _, rfl, ite2 (fun e => absurd e (by decide +kernel)) (fun _ => iteF ?_)⟩⟩
        exact qn _ (s1.trans (same_new hp1)) (by rw [huse]; simp [exps])
      | ret e =>
        rw [hf] at he1 huse okf
        obtain ⟨c, u, rfl, hc, hu⟩ := he1
        have oke := okf.1 e List.mem_cons_self
        refine ⟨_, rfl, a, _, _, _, rfl, rfl, .of ha1, atI_nat (j := 2) rfl, c, _, _, _, rfl, rfl, .of hc, atI_nat (j := 0) rfl, (by show 2 ≤ sizeLine; decide), fun p1 hp1 => ⟨p1, _, rfl, .inl (.of upd_same), rfl, rfl, _, rfl, ite2 (fun _ => ?_) (fun e => absurd (by decide +kernel) e)⟩⟩
        have sp := same_new (o := .lst [.str "if", .str "return"]) hp1
        refine ⟨_, rfl, _, rfl, a, _, _, _, rfl, rfl, .of (sp _ _ ha1), atI_nat (j := 2) rfl, c, _, _, _, rfl, rfl, .of (sp _ _ hc), atI_nat (j := 1) rfl, u, e, W, rfl, hu.mono (Tups.of sp), oke.1, Nat.le_trans oke.2 (by decide), nmE_small oke, fun p2 H5 s5 hp2 _ => ⟨p2, _, rfl, .inl (.of hp2), rfl, flat_iv _, _, rfl, ?_⟩⟩
        rw [show (if false = true then !inV (V.int (v : Int)) (iv (nmE e)) else inV (V.int (v : Int)) (iv (nmE e))) = decide (v ∈ nmE e) from in_iv v _]
        have sA := (s1.trans sp).trans s5
        have huse2 : usedB v (itsOf b) = decide (v ∈ nmE e) := by
          rw [huse]
          simp [exps]
        refine ite2 (fun h => ?_) (fun h => ?_)
        · exact qu _ sA (by rw [huse2]; exact h)
        · exact qn _ sA (by rw [huse2]; exact h)
      | iff e l m =>
        rw [hf] at he1 huse okf
        obtain ⟨c, u, rfl, hc, hu⟩ := he1
        have oke := okf.1 e List.mem_cons_self
        refine ⟨_, rfl, a, _, _, _, rfl, rfl, .of ha1, atI_nat (j := 2) rfl, c, _, _, _, rfl, rfl, .of hc, atI_nat (j := 0) rfl, (by show 2 ≤ sizeLine; decide), fun p1 hp1 => ⟨p1, _, rfl, .inl (.of upd_same), rfl, rfl, _, rfl, ite2 (fun _ => ?_) (fun e => absurd (by decide +kernel) e)⟩⟩
        have sp := same_new (o := .lst [.str "if", .str "return"]) hp1
        refine ⟨_, rfl, _, rfl, a, _, _, _, rfl, rfl, .of (sp _ _ ha1), atI_nat (j := 2) rfl, c, _, _, _, rfl, rfl, .of (sp _ _ hc), atI_nat (j := 1) rfl, u, e, W, rfl, hu.mono (Tups.of sp), oke.1, Nat.le_trans oke.2 (by decide), nmE_small oke, fun p2 H5 s5 hp2 _ => ⟨p2, _, rfl, .inl (.of hp2), rfl, flat_iv _, _, rfl, ?_⟩⟩
        rw [show (if false = true then !inV (V.int (v : Int)) (iv (nmE e)) else inV (V.int (v : Int)) (iv (nmE e))) = decide (v ∈ nmE e) from in_iv v _]
        have sA := (s1.trans sp).trans s5
        have huse2 : usedB v (itsOf b) = decide (v ∈ nmE e) := by
          rw [huse]
          simp [exps]
        refine ite2 (fun h => ?_) (fun h => ?_)
        · exact qu _ sA (by rw [huse2]; exact h)
        · exact qn _ sA (by rw [huse2]; exact h)
end
end K0

set_option Elab.async false
set_option linter.all false
set_option maxRecDepth 100000
set_option maxHeartbeats 1000000
namespace K0
open PySem L2
abbrev NLv : List Str := ["function", "label", "v", "seen", "row", "here", "block", "first", "other"]
def noBl : Bl := ⟨0, [], .ret (.int 0)⟩
def blk (F : Fn) (l : Nat) : Bl := (F.blocks.find? fun b => b.label == l).getD noBl
theorem find_at : ∀ {bs : List Bl} {j : Nat} {b : Bl}, (bs.map (·.label)).Nodup → bs[j]? = some b → bs.find? (fun x => x.label == b.label) = some b
  | [], j, b, _, h => by simp at h
  | x :: r, 0, b, _, h => by
    have e : x = b := Option.some.inj h
    subst e
    rw [List.find?_cons, beq_self_eq_true]
  | x :: r, j + 1, b, nd, h => by
    have nd' := List.nodup_cons.mp nd
    have hm : b.label ∈ r.map (·.label) := List.mem_map_of_mem (List.mem_of_getElem? h)
    have hne : (x.label == b.label) = false := beq_eq_false_iff_ne.mpr fun e => nd'.1 (by show x.label ∈ _; rw [e]; exact hm)
    rw [List.find?_cons, hne]
    exact find_at nd'.2 h
theorem blk_at {F : Fn} {j : Nat} {b : Bl} (nd : (F.blocks.map (·.label)).Nodup) (h : F.blocks[j]? = some b) : blk F b.label = b := by
  unfold blk
  rw [find_at nd h]
  rfl
theorem lab_ix {F : Fn} {l : Nat} (h : l ∈ F.blocks.map (·.label)) : ∃ (j : Nat) (b : Bl), F.blocks[j]? = some b ∧ b.label = l := by
  obtain ⟨b, hb, rfl⟩ := List.mem_map.mp h
  obtain ⟨j, hj⟩ := List.mem_iff_getElem?.mp hb
  exact ⟨j, b, hj, rfl⟩
theorem prd_get {α β : Type} {F : α → β → Prop} : ∀ {xs : List α} {ys : List β} {i : Nat} {x : α}, Paired F xs ys → xs[i]? = some x → ∃ y, ys[i]? = some y ∧ F x y
  | _, _, 0, _, .cons h _, e => ⟨_, rfl, by rw [← Option.some.inj e]; exact h⟩
  | _, _, i + 1, _, .cons _ t, e => prd_get (i := i) t e
  | _, _, _, _, .nil, e => by simp at e
theorem nd_get {l : List Nat} (nd : l.Nodup) : ∀ {i j : Nat} {x : Nat}, l[i]? = some x → l[j]? = some x → i = j := by
  induction l with
  | nil => intro i j x h; simp at h
  | cons y r ih =>
    obtain ⟨h1, h2⟩ := List.nodup_cons.mp nd
    intro i j x hi hj
    match i, j with
    | 0, 0 => rfl
    | 0, j + 1 =>
      have e : y = x := Option.some.inj hi
      exact absurd (List.mem_of_getElem? (show r[j]? = some x from hj)) (by rw [← e]; exact h1)
    | i + 1, 0 =>
      have e : y = x := Option.some.inj hj
      exact absurd (List.mem_of_getElem? (show r[i]? = some x from hi)) (by rw [← e]; exact h1)
    | i + 1, j + 1 => rw [ih h2 (show r[i]? = some x from hi) (show r[j]? = some x from hj)]
theorem wys_in {W : Nat} {ls : List Nat} {s : En} (h : EnOk W ls s) : ∀ l ∈ wys s, l ∈ ls := by
  cases s with
  | go l => exact fun x hx => by rw [List.mem_singleton.mp hx]; exact h
  | ret e => exact fun x hx => by cases hx
  | iff e l m =>
    intro x hx
    rw [show wys (.iff e l m) = if l = m then [l] else [l, m] from rfl] at hx
    split at hx
    · rw [List.mem_singleton.mp hx]
      exact h.2.1
    · rcases List.mem_cons.mp hx with rfl | hx
      · exact h.2.1
      · rw [List.mem_singleton.mp hx]
        exact h.2.2
theorem wys_len (s : En) : (wys s).length ≤ 2 := by
  cases s with
  | go l => exact Nat.le_succ _
  | ret e => exact Nat.zero_le _
  | iff e l m =>
    rw [show wys (.iff e l m) = if l = m then [l] else [l, m] from rfl]
    split
    · exact Nat.le_succ _
    · exact Nat.le_refl _
/-- some way from l, past none of S, reaches a use of v ahead of any set -/
inductive Lv (F : Fn) (v : Nat) (S : List Nat) : Nat → Prop
  | use {l : Nat} : ¬ l ∈ S → usedB v (itsOf (blk F l)) = true → Lv F v S l
  | step {l m : Nat} : ¬ l ∈ S → setB v (itsOf (blk F l)) = false → m ∈ wys (blk F l).fin → Lv F v S m → Lv F v S l
theorem Lv.free {F : Fn} {v : Nat} {S : List Nat} {l : Nat} (h : Lv F v S l) : ¬ l ∈ S := by
  cases h with
  | use a _ => exact a
  | step a _ _ _ => exact a
theorem Lv.weak {F : Fn} {v : Nat} {S : List Nat} {l : Nat} (h : Lv F v S l) : Lv F v [] l := by
  induction h with
  | use a b => exact .use (by simp) b
  | step a b c d ih => exact .step (by simp) b c ih
theorem Lv.past {F : Fn} {v : Nat} {S : List Nat} {l : Nat} (h : Nat) (L : Lv F v S l) : Lv F v (S ++ [h]) l ∨ usedB v (itsOf (blk F h)) = true ∨ (setB v (itsOf (blk F h)) = false ∧ ∃ m ∈ wys (blk F h).fin, Lv F v (S ++ [h]) m) := by
  have out : ∀ {x : Nat}, ¬ x ∈ S → ¬ x = h → ¬ x ∈ S ++ [h] := fun a b c => (List.mem_append.mp c).elim a fun d => b (List.mem_singleton.mp d)
  induction L with
  | @use l a b =>
    by_cases e : l = h
    · exact .inr (.inl (by rw [← e]; exact b))
    · exact .inl (.use (out a e) b)
  | @step l m a b c d ih =>
    rcases ih with ih | ih
    · by_cases e : l = h
      · exact .inr (.inr ⟨by rw [← e]; exact b, m, by rw [← e]; exact c, ih⟩)
      · exact .inl (.step (out a e) b c ih)
    · exact .inr ih
def spIsLive : Sp := fun vs H Q _ => ∃ (fv : V) (F : Fn) (nb mo l v : Nat), vs = [fv, .int (l : Int), .int (v : Int)] ∧ FnAt H F fv ∧ FnOk' nb mo F ∧ nb ≤ 40 ∧ l ∈ F.blocks.map (·.label) ∧
  (∀ H', Same H H' → Lv F v [] l → Q (.bl true) H') ∧ ∀ H', Same H H' → ¬ Lv F v [] l → Q (.bl false) H'
section
variable {P : Program} {w : World} {K : PySem.W.Frag} {mg : Str → Option Value} {base : Heap}
theorem scIsLive : FnScope NLv ["function", "label", "v"] (defScope sIsLive) := ⟨rfl, rfl, rfl, by decide +kernel, rfl, by decide +kernel, by decide +kernel⟩
theorem ok_islive {f : Addr} {fd : FuncData} (F : Fun K "_law_is_live" "_law_is_live" sIsLive f fd) (GF : Got P w K mg base 5 "_law_first" ["block", "v"] spFirst) (GE : Got P w K mg base 1 "_law_ends" ["block"] spEnds) : FnOk P w K mg base CX0 6 f fd ["function", "label", "v"] spIsLive := by
  obtain ⟨fF, fdF, GF, mF, kF, bF⟩ := GF.ex
  obtain ⟨fE, fdE, GE, mE, kE, bE⟩ := GE.ex
  refine F.ok scIsLive (fun vs H Q E h => ?_) (fun cdv A outer s H vs Q E hr h => ?_)
  · obtain ⟨fv, F, nb, mo, l, v, rfl, _⟩ := h
    rfl
  · obtain ⟨fv, F, nb, mo, l, v, rfl, ⟨fa, ba, rows, rfl, hfa, hba, pr⟩, ok, nb40, hl, qt, qf⟩ := h
    have nd := scIsLive.nd
    have hrF : Room 5 _ := hr
    have hrE : Room 1 _ := hr.mono (by decide)
    refine ⟨_, (pss_cons (ps_set (i := 3) nd rfl (.inl rfl) (pe_lst pa_nil)) (pss_cons (ps_set (i := 4) nd rfl (.inl rfl) (pe_lst (pa_cons (pv 1) pa_nil))) (pss_cons (ps_while PassesOwn.never (pt_cmpR (op_neD hr.units) (pv 4) (pe_lst pa_nil) (nomark _)) (pss_cons (ps_set (i := 5) nd rfl (.inr rfl) (pe_ix (r := rIxL K) ix_list (pv 4) pe_int (fun _ _ => rfl))) (pss_cons (ps_set (i := 4) nd rfl (.inl rfl) (pe_slice sl_list (pv 4) (po_some pe_int) po_none)) (pss_one (ps_if (pt_cmpR op_notIn_seq (pv 5) (pv 3) rfl) (pss_cons (ps_expr (pe_bm PySem.F.plainAttrs_list PySem.F.slot_list_append PySem.F.type_list_append mt_append (pv 3) (pa_cons (pv 5) pa_nil))) (pss_cons (ps_set (i := 6) nd rfl (.inl rfl) (pe_ix (r := rIxL K) ix_list (pe_lc (own := [("other", 8)]) (g := gName 8) (tt := _) rfl nd (pi_tup (pe_ix (r := rIxT K) ix_tup (pv 0) pe_int (fun _ _ => rfl))) (blkOk_by (N := NLv) (sc := defScope sIsLive) (by decide +kernel)) (fun _ _ _ _ _ => pg_name (i := 8) nd rfl (.inl rfl)) (fun _ _ _ _ _ => (pts_one (pt_cmpR op_eq (pe_ix (r := rIxT K) ix_tup (pv 8) pe_int (fun _ _ => rfl)) (pv 5) (nomark _)))) (fun _ _ _ _ _ => (pv 8))) pe_int (fun _ _ => rfl))) (pss_cons (ps_set (i := 7) nd rfl (.inl rfl) (pe_call GF hrF (by rfl) mF kF bF .nil pass0 (pa_cons (pv 6) (pa_cons (pv 2) pa_nil)))) (pss_cons (ps_if (pt_cmpR op_eq (pv 7) pe_str (nomark _)) (pss_one (ps_ret pe_bl)) pss_nil) (pss_one (ps_if (pt_cmpR op_eq (pv 7) pe_str (nomark _)) (pss_one (ps_set (i := 4) nd rfl (.inl rfl) (pe_op op_cat (pv 4) (pe_call GE hrE (by rfl) mE kE bE .nil pass0 (pa_cons (pv 6) pa_nil))))) pss_nil)))))) pss_nil))))) (pss_one (ps_ret pe_bl))))), ?_⟩
    refine ⟨(by show 0 ≤ sizeLine; decide), fun sA hsA => ?_⟩
    refine ⟨_, rfl, (by show 1 ≤ sizeLine; decide), fun rA hrA => ?_⟩
    have nsr : sA ≠ rA := ne_of_none upd_same hrA
    have s1 := (same_new (o := .lst []) hsA).trans (same_new (o := .lst [.int (l : Int)]) hrA)
    refine ⟨fun m σ H' => ∃ (sl rl : List Nat) (rA : Addr) (y5 y6 y7 y8 : Option V), σ = [some (.ref fa), some (.int (l : Int)), some (.int (v : Int)), some (.ref sA), some (.ref rA), y5, y6, y7, y8] ∧ Same H H' ∧ H' sA = some (.lst (iv sl)) ∧ H' rA = some (.lst (iv rl)) ∧ sA ≠ rA ∧
        sl.Nodup ∧ (∀ x ∈ sl, x ∈ F.blocks.map (·.label)) ∧ (∀ x ∈ rl, x ∈ F.blocks.map (·.label)) ∧ rl.length ≤ 2 * sl.length + 1 ∧ m = 3 * (F.blocks.length - sl.length) + rl.length ∧
        (Lv F v [] l → ∃ r ∈ rl, Lv F v sl r) ∧ (∀ r ∈ rl, Lv F v [] r → Lv F v [] l),
      ⟨_, [], [l], rA, none, none, none, none, rfl, s1, by rw [upd_ne nsr]; exact upd_same, upd_same, nsr, List.nodup_nil, (fun x h => by cases h), (fun x h => by rw [List.mem_singleton.mp h]; exact hl), Nat.le_refl 1, rfl, fun h => ⟨l, List.mem_cons_self, h⟩, fun r h => by rw [List.mem_singleton.mp h]; exact id⟩, ?_⟩
    clear s1 nsr hrA rA
    rintro m σ H2 ⟨sl, rl, rA, y5, y6, y7, y8, rfl, s2, hs2, hr2, nsr, ndS, inS, inR, lenR, rfl, cpl, snd⟩
    have lenS : sl.length ≤ F.blocks.length := by
      have := nd_len ndS inS
      rw [List.length_map] at this
      exact this
    have bn := ok.bn
    refine ⟨_, rfl, (by show 0 ≤ sizeLine; decide), fun e1 he1 => ?_⟩
    have se := same_new (o := .lst []) he1
    refine ⟨.list (rl.map fun n : Nat => PyData.int (n : Int)), .list [], .lst (.of (se _ _ hr2)) (dp_iv rl), .lst (.of upd_same) .nil, sh_iv rl, by decide +kernel, _, rfl, ?_⟩
    rw [eqv_nil]
    have s3 := s2.trans se
    have hs3 := se _ _ hs2
    have hr3 := se _ _ hr2
    generalize upd H2 e1 (.lst []) = H3 at s3 hs3 hr3 ⊢
    cases rl with
    | nil =>
      refine iteF ?_
      exact qf H3 s3 fun h => by
        obtain ⟨r, hr', _⟩ := cpl h
        cases hr'
    | cons r rest =>
      refine iteT ?_
      refine ⟨fun σ' H' => ∃ m', m' < 3 * (F.blocks.length - sl.length) + (r :: rest).length ∧ ∃ (sl rl : List Nat) (rA : Addr) (y5 y6 y7 y8 : Option V), σ' = [some (.ref fa), some (.int (l : Int)), some (.int (v : Int)), some (.ref sA), some (.ref rA), y5, y6, y7, y8] ∧ Same H H' ∧ H' sA = some (.lst (iv sl)) ∧ H' rA = some (.lst (iv rl)) ∧ sA ≠ rA ∧
        sl.Nodup ∧ (∀ x ∈ sl, x ∈ F.blocks.map (·.label)) ∧ (∀ x ∈ rl, x ∈ F.blocks.map (·.label)) ∧ rl.length ≤ 2 * sl.length + 1 ∧ m' = 3 * (F.blocks.length - sl.length) + rl.length ∧
        (Lv F v [] l → ∃ r ∈ rl, Lv F v sl r) ∧ (∀ r ∈ rl, Lv F v [] r → Lv F v [] l), fun σ' H' h => h, ?_⟩
      -- here, row
      refine ⟨_, rfl, rA, _, _, _, rfl, rfl, .of hr3, atI_nat (j := 0) rfl, ?_⟩
      refine ⟨_, rfl, _, rfl, rA, _, rfl, .of hr3, fun r4 hr4 => ?_⟩
      rw [show cutV (iv (r :: rest)) (some 1) none = iv rest from cut_from (iv (r :: rest)) 1]
      have s4' := same_new (o := .lst (iv rest)) hr4
      have s4 := s3.trans s4'
      have hs4 := s4' _ _ hs3
      have ns4 : sA ≠ r4 := ne_of_none hs3 hr4
      have hr4' : (upd H3 r4 (.lst (iv rest))) r4 = some (.lst (iv rest)) := upd_same
      generalize upd H3 r4 (.lst (iv rest)) = H4 at s4 hs4 hr4' ⊢
      have inRest : ∀ x ∈ rest, x ∈ F.blocks.map (·.label) := fun x hx => inR x (List.mem_cons_of_mem _ hx)
      have lr : (r :: rest).length = rest.length + 1 := rfl
      -- here not in seen
      refine ⟨_, rfl, _, rfl, sA, _, rfl, .inl (.of hs4), rfl, flat_iv _, _, rfl, ?_⟩
      rw [show (if true = true then !inV (V.int (r : Int)) (iv sl) else inV (V.int (r : Int)) (iv sl)) = !decide (r ∈ sl) from by rw [if_pos rfl, in_iv]]
      by_cases hin : r ∈ sl
      · rw [decide_eq_true hin]
        refine iteF ?_
        refine ⟨3 * (F.blocks.length - sl.length) + rest.length, by omega, sl, rest, r4, _, y6, y7, y8, rfl, s4, hs4, hr4', ns4, ndS, inS, inRest, by omega, rfl, fun h => ?_, fun x hx => snd x (List.mem_cons_of_mem _ hx)⟩
        obtain ⟨w, hw, L⟩ := cpl h
        rcases List.mem_cons.mp hw with rfl | hw
        · exact absurd hin L.free
        · exact ⟨w, hw, L⟩
      · rw [decide_eq_false hin]
        refine iteT ?_
        have hrl := inR r List.mem_cons_self
        have hslt : sl.length < F.blocks.length := by
          have nd2 : (sl ++ [r]).Nodup := by
            rw [List.nodup_append]
            exact ⟨ndS, List.nodup_cons.mpr ⟨by simp, List.nodup_nil⟩, fun a ha b hb e => hin (by rw [List.mem_singleton.mp hb] at e; rw [← e]; exact ha)⟩
          have := nd_len nd2 (l := F.blocks.map (·.label)) fun x hx => (List.mem_append.mp hx).elim (inS x) fun z => by
            rw [List.mem_singleton.mp z]
            exact hrl
          rw [List.length_append, List.length_map, List.length_singleton] at this
          omega
        -- seen.append(here)
        refine ⟨_, rfl, .inl ⟨rfl, _, .of hs4⟩, _, rfl, sA, _, _, rfl, rfl, hs4, by rw [List.length_map]; exact big (by omega), ?_⟩
        have s5 := sput (o := .lst (iv sl ++ [.int (r : Int)])) s4 hsA
        have hs5 : (upd H4 sA (.lst (iv sl ++ [.int (r : Int)]))) sA = some (.lst (iv (sl ++ [r]))) := by
          rw [upd_same]
          unfold iv
          rw [List.map_append]
          rfl
        have hr5 : (upd H4 sA (.lst (iv sl ++ [.int (r : Int)]))) r4 = some (.lst (iv rest)) := by
          rw [upd_ne ns4.symm]
          exact hr4'
        generalize upd H4 sA (.lst (iv sl ++ [.int (r : Int)])) = H5 at s5 hs5 hr5 ⊢
        -- block
        obtain ⟨j0, b, hj0, hbl⟩ := lab_ix hrl
        have hb : blk F r = b := by
          rw [← hbl]
          exact blk_at ok.nd hj0
        obtain ⟨r1, hr1, a1, sa1, u1, ss1, rfl, ha1, hs1', ps1, he1'⟩ := prd_get pr hj0
        refine ⟨_, rfl, fa, _, _, _, rfl, rfl, .of (s5 _ _ hfa), atI_nat (j := 2) rfl, ba, rfl, ⟨_, .of (s5 _ _ hba)⟩, fun Db hDb => lc_tup (xs := rows) (fun i H6 => H6 Db = some (.lst (if j0 < i then [.ref a1] else [])) ∧ Same H5 H6) ⟨upd_same, same_new hDb⟩ ?_ ?_ ?_⟩
        · rintro i H6 _ ⟨_, sm⟩
          exact .of (sm _ _ (s5 _ _ hba))
        · rintro i x H6 hx ⟨hD, sm⟩
          obtain ⟨bi, hbi, ai, si, ui, vsi, rfl, hai, _, _, _⟩ := prd_get' pr hx
          refine ⟨rfl, ?_⟩
          refine ⟨_, rfl, ai, _, _, _, rfl, rfl, .of (sm _ _ (s5 _ _ hai)), atI_nat (j := 0) rfl, _, rfl, rfl, _, rfl, ite2 (fun e => ?_) (fun e => ?_)⟩
          · have e1 : bi.label = r := by
              have := V.int.inj (of_decide_eq_true e)
              omega
            have eij : i = j0 := by
              have q1 : (F.blocks.map (·.label))[i]? = some r := by rw [List.getElem?_map, hbi, ← e1]; rfl
              have q2 : (F.blocks.map (·.label))[j0]? = some r := by rw [List.getElem?_map, hj0, ← hbl]; rfl
              exact nd_get ok.nd q1 q2
            subst eij
            rw [hr1] at hx
            cases hx
            rw [if_neg (Nat.lt_irrefl _)] at hD
            refine ⟨_, rfl, _, hD, (by show 0 < sizeLine; decide), ?_, sput sm hDb⟩
            rw [upd_same, if_pos (Nat.lt_succ_self _)]
            rfl
          · have eij : i ≠ j0 := fun z => by
              subst z
              rw [hj0] at hbi
              cases hbi
              exact e (decide_eq_true (by rw [hbl]))
            refine ⟨?_, sm⟩
            rw [hD]
            by_cases h : j0 < i
            · rw [if_pos h, if_pos (by omega)]
            · rw [if_neg h, if_neg (by omega)]
        rintro H6 ⟨hD6, sm6⟩
        have hjl : j0 < rows.length := (List.getElem?_eq_some_iff.mp hr1).1
        rw [if_pos hjl] at hD6
        have s6 := s5.trans sm6
        refine ⟨Db, _, _, _, rfl, rfl, .of hD6, atI_nat (j := 0) rfl, ?_⟩
        -- first
        have bat : BlAt H (b) (.ref a1) := ⟨a1, sa1, u1, ss1, rfl, ha1, hs1', ps1, he1'⟩
        have bok := ok.ok b (List.mem_of_getElem? hj0)
        refine ⟨_, rfl, _, rfl, _, b, v, F.width, mo, _, rfl, bat.mono (Tups.of s6), bok, fun H7 sm7 => ?_⟩
        have s7 := s6.trans sm7
        have hs7 := sm7 _ _ (sm6 _ _ hs5)
        have hr7 := sm7 _ _ (sm6 _ _ hr5)
        have inS' : ∀ x ∈ sl ++ [r], x ∈ F.blocks.map (·.label) := fun x hx => (List.mem_append.mp hx).elim (inS x) fun z => by
          rw [List.mem_singleton.mp z]
          exact hrl
        have ndS' : (sl ++ [r]).Nodup := by
          rw [List.nodup_append]
          exact ⟨ndS, List.nodup_cons.mpr ⟨by simp, List.nodup_nil⟩, fun a ha b hb e => hin (by rw [List.mem_singleton.mp hb] at e; rw [← e]; exact ha)⟩
        have lenS' : (sl ++ [r]).length = sl.length + 1 := by
          rw [List.length_append]
          rfl
        -- what goes on in the rest
        have onRest : ∀ w ∈ r :: rest, Lv F v sl w → ¬ usedB v (itsOf (blk F r)) = true → (∃ w ∈ rest, Lv F v (sl ++ [r]) w) ∨ (setB v (itsOf (blk F r)) = false ∧ ∃ m ∈ wys (blk F r).fin, Lv F v (sl ++ [r]) m) := by
          intro w hw L hnu
          rcases L.past r with h | h | h
          · rcases List.mem_cons.mp hw with rfl | hw
            · exact absurd (List.mem_append_right _ List.mem_cons_self) h.free
            · exact .inl ⟨w, hw, h⟩
          · exact absurd h hnu
          · exact .inr h
        have fstE : firstS b v = if usedB v (itsOf (blk F r)) = true then ("use" : Str) else if setB v (itsOf (blk F r)) = true then ("set" : Str) else ("nothing" : Str) := by
          rw [hb]
          rfl
        rw [fstE]
        by_cases hu : usedB v (itsOf (blk F r)) = true
        · rw [if_pos hu]
          refine ⟨_, rfl, rfl, _, rfl, ite2 (fun _ => ?_) (fun e => absurd dT e)⟩
          exact qt H7 s7 (snd r List.mem_cons_self (.use (by simp) hu))
        · rw [if_neg hu]
          by_cases hs : setB v (itsOf (blk F r)) = true
          · rw [if_pos hs]
            refine ⟨_, rfl, rfl, _, rfl, ite2 (fun e => absurd e (dN (by decide +kernel))) (fun _ => ?_)⟩
            refine ⟨_, rfl, rfl, _, rfl, ite2 (fun e => absurd e (dN (by decide +kernel))) (fun _ => ?_)⟩
            refine ⟨3 * (F.blocks.length - (sl ++ [r]).length) + rest.length, by omega, sl ++ [r], rest, r4, _, _, _, y8, rfl, s7, hs7, hr7, ns4, ndS', inS', inRest, by omega, rfl, fun h => ?_, fun x hx => snd x (List.mem_cons_of_mem _ hx)⟩
            obtain ⟨w, hw, L⟩ := cpl h
            rcases onRest w hw L hu with h | ⟨h, _⟩
            · exact h
            · rw [hs] at h
              cases h
          · rw [if_neg hs]
            have hsf : setB v (itsOf (blk F r)) = false := by
              cases h : setB v (itsOf (blk F r)) with
              | false => rfl
              | true => exact absurd h hs
            refine ⟨_, rfl, rfl, _, rfl, ite2 (fun e => absurd e (dN (by decide +kernel))) (fun _ => ?_)⟩
            refine ⟨_, rfl, rfl, _, rfl, ite2 (fun _ => ?_) (fun e => absurd dT e)⟩
            refine ⟨_, rfl, _, rfl, _, b, rfl, bat.mono (Tups.of s7), fun p8 H8 sm8 hp8 => ?_⟩
            have wl := wys_len b.fin
            refine ⟨r4, p8, _, _, rfl, rfl, sm8 _ _ hr7, hp8, ?_, fun t ht => ?_⟩
            · rw [List.length_map, List.length_map]
              exact Nat.le_of_lt (big (by omega))
            · have st := same_new (o := .lst (iv rest ++ iv (wys b.fin))) ht
              have ht0 : H8 sA = some (.lst (iv (sl ++ [r]))) := sm8 _ _ hs7
              refine ⟨3 * (F.blocks.length - (sl ++ [r]).length) + (rest ++ wys b.fin).length, ?_, sl ++ [r], rest ++ wys b.fin, t, _, _, _, y8, rfl, (s7.trans sm8).trans st, st _ _ ht0, ?_, ne_of_none ht0 ht, ndS', inS', ?_, ?_, rfl, ?_, ?_⟩
              · rw [lenS', List.length_append]
                omega
              · rw [upd_same]
                unfold iv
                rw [List.map_append]
              · intro x hx
                rcases List.mem_append.mp hx with h | h
                · exact inRest x h
                · exact List.mem_of_mem_tail (wys_in bok.2.2 x h)
              · rw [lenS', List.length_append]
                omega
              · intro h
                obtain ⟨w, hw, L⟩ := cpl h
                rcases onRest w hw L hu with ⟨w, hw, h⟩ | ⟨_, m, hm, h⟩
                · exact ⟨w, List.mem_append_left _ hw, h⟩
                · rw [hb] at hm
                  exact ⟨m, List.mem_append_right _ hm, h⟩
              · intro x hx L
                rcases List.mem_append.mp hx with h | h
                · exact snd x (List.mem_cons_of_mem _ h) L
                · exact snd r List.mem_cons_self (.step (by simp) hsf (by rw [hb]; exact h) L)
end
end K0

set_option Elab.async false
set_option linter.all false
set_option maxRecDepth 100000
set_option maxHeartbeats 1000000
namespace K0
open PySem L2
/-- live_in's sets as they stand -/
structure LvSt (F : Fn) (H1 H' : Hp) (LA : Addr) (kl : List (Key × V)) (ds : List Addr) (S : Nat → List Nat) : Prop where
  sm : Same H1 H'
  la : H' LA = some (.dK kl)
  at_ : ∀ (j : Nat) (b : Bl), F.blocks[j]? = some b → ∃ d, ds[j]? = some d ∧ valV kl (Sum.inl (b.label : Int)) = some (.ref d) ∧ H' d = some (.dK (kvOf (S j))) ∧ Us (S j) ∧ (∀ x, usedB x (itsOf b) = true → x ∈ S j) ∧ (∀ x ∈ S j, Lv F x [] b.label)
theorem LvSt.same {F : Fn} {H1 H' H2 : Hp} {LA : Addr} {kl : List (Key × V)} {ds : List Addr} {S : Nat → List Nat} (L : LvSt F H1 H' LA kl ds S) (s : Same H' H2) : LvSt F H1 H2 LA kl ds S :=
  ⟨L.sm.trans s, s _ _ L.la, fun j b h => by
    obtain ⟨d, a1, a2, a3, a4⟩ := L.at_ j b h
    exact ⟨d, a1, a2, s _ _ a3, a4⟩⟩
def tot (S : Nat → List Nat) : Nat → Nat
  | 0 => 0
  | n + 1 => tot S n + (S n).length
theorem tot_le {S : Nat → List Nat} : ∀ {n : Nat}, (∀ j, j < n → (S j).length ≤ 10) → tot S n ≤ 10 * n
  | 0, _ => Nat.le_refl _
  | n + 1, h => by
    have h1 := tot_le (S := S) (n := n) fun j hj => h j (Nat.lt_succ_of_lt hj)
    have h2 := h n (Nat.lt_succ_self n)
    show tot S n + (S n).length ≤ _
    omega
theorem tot_mono {S T : Nat → List Nat} (h : ∀ j, (S j).length ≤ (T j).length) : ∀ n, tot S n ≤ tot T n
  | 0 => Nat.le_refl _
  | n + 1 => Nat.add_le_add (tot_mono h n) (h n)
theorem tot_lt {S T : Nat → List Nat} (h : ∀ j, (S j).length ≤ (T j).length) {i : Nat} (hi : (S i).length < (T i).length) : ∀ {n : Nat}, i < n → tot S n < tot T n
  | 0, z => absurd z (Nat.not_lt_zero _)
  | n + 1, z => by
    show tot S n + (S n).length < tot T n + (T n).length
    by_cases e : i = n
    · subst e
      have := tot_mono h i
      omega
    · have := tot_lt h hi (n := n) (by omega)
      have := h n
      omega
def ClB (F : Fn) (S : Nat → List Nat) (j : Nat) (b : Bl) : Prop := ∀ (k : Nat) (c : Bl), F.blocks[k]? = some c → c.label ∈ wys b.fin → ∀ x ∈ S k, setB x (itsOf b) = false → x ∈ S j
theorem clo_live {nb mo : Nat} {F : Fn} (ok : FnOk' nb mo F) {S : Nat → List Nat} (hu : ∀ (j : Nat) (b : Bl), F.blocks[j]? = some b → ∀ x, usedB x (itsOf b) = true → x ∈ S j) (hc : ∀ (j : Nat) (b : Bl), F.blocks[j]? = some b → ClB F S j b) {x l : Nat} (L : Lv F x [] l) :
    ∀ (j : Nat) (b : Bl), F.blocks[j]? = some b → b.label = l → x ∈ S j := by
  induction L with
  | @use l _ h =>
    intro j b hb e
    refine hu j b hb x ?_
    rw [← blk_at ok.nd hb, e]
    exact h
  | @step l m _ h1 h2 _ ih =>
    intro j b hb e
    have eb : blk F l = b := by
      rw [← e]
      exact blk_at ok.nd hb
    rw [eb] at h1 h2
    have hm : m ∈ F.blocks.map (·.label) := List.mem_of_mem_tail (wys_in (ok.ok b (List.mem_of_getElem? hb)).2.2 m h2)
    obtain ⟨k, c, hk, hl⟩ := lab_ix hm
    exact hc j b hb k c hk (by rw [hl]; exact h2) x (ih k c hk hl) h1
theorem ins_len (ks : List Nat) (x : Nat) : ks.length ≤ (ins ks x).length := by
  unfold ins
  split
  · exact Nat.le_refl _
  · rw [List.length_append]
    omega
theorem addAll_len : ∀ (l ks : List Nat), ks.length ≤ (addAll ks l).length
  | [], ks => Nat.le_refl _
  | x :: r, ks => Nat.le_trans (ins_len ks x) (addAll_len r (ins ks x))
theorem addAll_lt {x : Nat} {r ks : List Nat} (h : ¬ x ∈ ks) : ks.length < (addAll ks (x :: r)).length := by
  have h1 : (ins ks x).length = ks.length + 1 := by
    unfold ins
    rw [if_neg h, List.length_append]
    rfl
  have h2 := addAll_len r (ins ks x)
  show _ < (addAll (ins ks x) r).length
  omega
/-- two dicts are locked: what stands -/
def lk2 (H : Hp) (d1 d2 : Addr) (o1 o2 : Obj) (u1 u2 : HO) : Hp := upd (upd H d1 (.frz o1 u1)) d2 (.frz o2 u2)
theorem lk2_rd {H : Hp} {d1 d2 : Addr} {o1 o2 : Obj} {u1 u2 : HO} (h1 : H d1 = some u1) (h2 : H d2 = some u2) {a : Addr} {u : HO} (h : H a = some u) : Rd (lk2 H d1 d2 o1 o2 u1 u2) a u := by
  unfold lk2
  by_cases e2 : a = d2
  · subst e2
    rw [h2] at h
    cases h
    exact .inr ⟨o2, upd_same⟩
  · by_cases e1 : a = d1
    · subst e1
      rw [h1] at h
      cases h
      exact .inr ⟨o1, by rw [upd_ne e2]; exact upd_same⟩
    · exact .inl (by rw [upd_ne e2, upd_ne e1]; exact h)
theorem lk2_at {H : Hp} {d1 d2 : Addr} {o1 o2 : Obj} {u1 u2 : HO} (n : d1 ≠ d2) {a : Addr} {u : HO} (h1 : H d1 = some u1) (h2 : H d2 = some u2) (ha : a = d1 ∨ a = d2) (h : H a = some u) : ∃ o, lk2 H d1 d2 o1 o2 u1 u2 a = some (.frz o u) := by
  unfold lk2
  rcases ha with rfl | rfl
  · rw [h1] at h
    cases h
    exact ⟨o1, by rw [upd_ne n]; exact upd_same⟩
  · rw [h2] at h
    cases h
    exact ⟨o2, upd_same⟩
theorem Rd.same {A B : Hp} {a : Addr} {u : HO} (s : Same A B) (h : Rd A a u) : Rd B a u := h.elim (fun e => .inl (s _ _ e)) fun ⟨o, e⟩ => .inr ⟨o, s _ _ e⟩
/-- unlocked again, all is as it was and what is new stands -/
theorem lk2_back {H B : Hp} {d1 d2 : Addr} {o1 o2 : Obj} {u1 u2 : HO} (n : d1 ≠ d2) (h1 : H d1 = some u1) (h2 : H d2 = some u2) (s : Same (lk2 H d1 d2 o1 o2 u1 u2) B) :
    B d2 = some (.frz o2 u2) ∧ (upd B d2 u2) d1 = some (.frz o1 u1) ∧ Same H (upd (upd B d2 u2) d1 u1) ∧ ∀ D o, lk2 H d1 d2 o1 o2 u1 u2 D = none → B D = some o → (upd (upd B d2 u2) d1 u1) D = some o := by
  have e2 : lk2 H d1 d2 o1 o2 u1 u2 d2 = some (.frz o2 u2) := upd_same
  have e1 : lk2 H d1 d2 o1 o2 u1 u2 d1 = some (.frz o1 u1) := by
    unfold lk2
    rw [upd_ne n]
    exact upd_same
  refine ⟨s _ _ e2, by rw [upd_ne n]; exact s _ _ e1, fun a o h => ?_, fun D o hD hB => ?_⟩
  · by_cases q1 : a = d1
    · subst q1
      rw [upd_same, ← h1]
      exact h
    · rw [upd_ne q1]
      by_cases q2 : a = d2
      · subst q2
        rw [upd_same, ← h2]
        exact h
      · rw [upd_ne q2]
        exact s _ _ (by unfold lk2; rw [upd_ne q2, upd_ne q1]; exact h)
  · have q1 : D ≠ d1 := fun z => by
      rw [z, e1] at hD
      cases hD
    have q2 : D ≠ d2 := fun z => by
      rw [z, e2] at hD
      cases hD
    rw [upd_ne q1, upd_ne q2]
    exact hB
/-- a walk whose turns may do anything: B x H N, N what is wanted behind the turn -/
theorem turn_it {J : L2.It} {n : Nat} {G : Hp → Prop} {Y : Nat → Hp → V → Hp → Prop} (w : Walk J n G Y) {B : V → Hp → (Hp → Prop) → Prop} {H0 : Hp} {Qd : Hp → Prop} (Pv : Nat → Hp → Prop) (h0 : Pv 0 H0) (hG : ∀ i H, i ≤ n → Pv i H → G H)
    (hs : ∀ i x H H', i < n → Pv i H → Y i H x H' → B x H' (Pv (i + 1))) (hd : ∀ H, Pv n H → Qd H) :
    ∃ W : Nat → Nat → Hp → Prop, (∃ m, W 0 m H0) ∧ ∀ i m H, W i m H → (J.stop i H ∧ Qd H) ∨ (J.go i H ∧ ∃ Nx : Hp → Prop, (∀ H', Nx H' → ∃ m', m' < m ∧ W (i + 1) m' H') ∧ ∀ x H', J.yld i H x H' → B x H' Nx) := by
  refine ⟨fun i m H => m + i = n ∧ Pv i H, ⟨n, by omega, h0⟩, ?_⟩
  rintro i m H ⟨hm, p⟩
  have q := hG i H (by omega) p
  rcases Nat.lt_or_ge i n with hlt | hge
  · exact .inr ⟨w.goes i H hlt q, Pv (i + 1), fun H' p' => ⟨n - (i + 1), by omega, by omega, p'⟩, fun x H' y => hs i x H H' hlt p (w.yields i H x H' hlt q y)⟩
  · have e : i = n := by omega
    subst e
    exact .inl ⟨w.stops H q, hd H p⟩
end K0

set_option Elab.async false
set_option linter.all false
set_option maxRecDepth 100000
set_option maxHeartbeats 1000000
namespace K0
open PySem L2
abbrev NV : List Str := ["function", "blocks", "live", "block"]
abbrev NQ : List Str := ["rows", "label", "read", "given", "live", "changed", "targets", "mine", "name", "more", "_", "target"]
theorem dc_list {K : PySem.W.Frag} {a : Addr} {xs : List V} {g : TG} {tt : TT} {tk tv : TE} {vs : List Nat} {σ : L2.St} {H1 : Hp} {D : Addr} {Qd : Hp → Prop} (Pv : Nat → Hp → Prop) (h0 : Pv 0 (upd H1 D (.dK []))) (hl : ∀ i H, i ≤ xs.length → Pv i H → SqL K H a xs)
    (hs : ∀ i x H, xs[i]? = some x → Pv i H → g x (wipe σ vs) H fun σ2 H2 => wipe σ2 vs = wipe σ vs ∧ tt σ2 H2 fun b H3 =>
      if b = true then tk σ2 H3 fun y H4 => tv σ2 H4 fun z H5 => ∃ kvs k, y = kV k ∧ H5 D = some (.dK kvs) ∧ kvs.length < sizeLine ∧ Pv (i + 1) (upd H5 D (.dK (putK kvs k z))) else Pv (i + 1) H3) (hd : ∀ H, Pv xs.length H → Qd H) :
    ∃ W : Nat → Nat → Hp → Prop, (∃ m, W 0 m (upd H1 D (.dK []))) ∧ ∀ i m H, W i m H →
      ((Itl K a).stop i H ∧ Qd H) ∨ ((Itl K a).go i H ∧ ∃ Nx : Hp → Prop, (∀ H', Nx H' → ∃ m', m' < m ∧ W (i + 1) m' H') ∧ ∀ x H', (Itl K a).yld i H x H' → g x (wipe σ vs) H' fun σ2 H2 => wipe σ2 vs = wipe σ vs ∧ tt σ2 H2 fun b H3 =>
        if b = true then tk σ2 H3 fun y H4 => tv σ2 H4 fun z H5 => ∃ kvs k, y = kV k ∧ H5 D = some (.dK kvs) ∧ kvs.length < sizeLine ∧ Nx (upd H5 D (.dK (putK kvs k z))) else Nx H3) := by
  refine ⟨fun i m H => m + i = xs.length ∧ Pv i H, ⟨xs.length, by omega, h0⟩, ?_⟩
  rintro i m H ⟨hm, p⟩
  have q := hl i H (by omega) p
  rcases Nat.lt_or_ge i xs.length with hlt | hge
  · refine .inr ⟨⟨xs, xs[i], q, List.getElem?_eq_getElem hlt⟩, Pv (i + 1), fun H' p' => ⟨xs.length - (i + 1), by omega, by omega, p'⟩, ?_⟩
    rintro x H' ⟨rfl, y⟩
    exact hs i x _ (y xs q) p
  · have e : i = xs.length := by omega
    subst e
    exact .inl ⟨⟨xs, q, Nat.le_refl _⟩, hd H p⟩
/-- a row of live_names -/
def RowAt (H : Hp) (b : Bl) (x : V) : Prop := ∃ ta wa ua pa u p, x = .ref ta ∧ H ta = some (.tup [.int (b.label : Int), .ref wa, .ref ua, .ref pa]) ∧ H wa = some (.tup (iv (wys b.fin))) ∧ H ua = some (.dK (kvOf u)) ∧ H pa = some (.dK (kvOf p)) ∧
  Us u ∧ Us p ∧ (∀ x, x ∈ u ↔ usedB x (itsOf b) = true) ∧ (∀ x, x ∈ p ↔ setB x (itsOf b) = true)
theorem RowAt.keep {R : Addr} {l : List V} {A B : Hp} {b : Bl} {x : V} (k : KeepD R A B) (hR : A R = some (.lst l)) : RowAt A b x → RowAt B b x := by
  rintro ⟨ta, wa, ua, pa, u, p, rfl, h1, h2, h4, h5, r⟩
  have ne : ∀ {a : Addr} {o : HO}, A a = some o → (∀ l, o ≠ .lst l) → a ≠ R := fun h n => ne_of h hR (n _)
  exact ⟨ta, wa, ua, pa, u, p, rfl, k _ _ h1 (ne h1 fun l z => by cases z), k _ _ h2 (ne h2 fun l z => by cases z), k _ _ h4 (ne h4 fun l z => by cases z), k _ _ h5 (ne h5 fun l z => by cases z), r⟩
theorem RowAt.same {A B : Hp} {b : Bl} {x : V} (k : Same A B) : RowAt A b x → RowAt B b x := by
  rintro ⟨ta, wa, ua, pa, u, p, rfl, h1, h2, h4, h5, r⟩
  exact ⟨ta, wa, ua, pa, u, p, rfl, k _ _ h1, k _ _ h2, k _ _ h4, k _ _ h5, r⟩
theorem wys_nd (s : En) : (wys s).Nodup := by
  cases s with
  | go l => simp [wys]
  | ret e => simp [wys]
  | iff e l m =>
    rw [show wys (.iff e l m) = if l = m then [l] else [l, m] from rfl]
    split
    · simp
    · rename_i h
      simp [h]
def rTupOf (K : PySem.W.Frag) : List V → Hp → VK → Prop := fun xs H Q => ∃ p ys, xs = [.ref p] ∧ ((SqL K H p ys ∧ ∀ l, H l = none → Q (.ref l) (upd H l (.tup ys))) ∨ (SqT K H p ys ∧ Q (.ref p) H))
def LiveRow (F : Fn) (H : Hp) (b : Bl) (x : V) : Prop := ∃ a t us, x = .ref a ∧ H a = some (.tup [.int (b.label : Int), .ref t]) ∧ H t = some (.tup (iv us)) ∧ us.Pairwise (· < ·) ∧ ∀ z, z ∈ us ↔ Lv F z [] b.label
def spLive : Sp := fun vs H Q _ => ∃ (fv : V) (F : Fn) (nb mo : Nat), vs = [fv] ∧ FnAt H F fv ∧ FnOk' nb mo F ∧ nb ≤ 40 ∧ mo ≤ 40 ∧
  ∀ (p : Addr) (xs : List V) (H' : Hp), Same H H' → H' p = some (.lst xs) → Paired (LiveRow F H') F.blocks xs → Q (.ref p) H'
def spNms : Sp := fun vs H Q _ => ∃ (R : Addr) (ys : List V) (F : Fn) (nb mo : Nat), vs = [.ref R] ∧ H R = some (.lst ys) ∧ Paired (RowAt H) F.blocks ys ∧ FnOk' nb mo F ∧ nb ≤ 40 ∧ mo ≤ 40 ∧
  ∀ (LA : Addr) (kl : List (Key × V)) (ds : List Addr) (S : Nat → List Nat) (H' : Hp), LvSt F H H' LA kl ds S → (∀ (j : Nat) (b : Bl), F.blocks[j]? = some b → ∀ x, x ∈ S j ↔ Lv F x [] b.label) → Q (.ref LA) H'
section
variable {P : Program} {w : World} {K : PySem.W.Frag} {mg : Str → Option Value} {base : Heap}
theorem scNms : FnScope NQ ["rows"] (defScope sNms) := ⟨rfl, rfl, rfl, by decide +kernel, rfl, by decide +kernel, by decide +kernel⟩
theorem ok_names' {f : Addr} {fd : FuncData} (F : Fun K "live_names" "live_names" sNms f fd) (mdi : mg "dict" = none) (mrv : mg "reversed" = none) : FnOk P w K mg base CX0 1 f fd ["rows"] spNms := by
  refine F.ok scNms (fun vs H Q E h => ?_) (fun cdv A outer s H1 vs Q E hr h => ?_)
  · obtain ⟨R, ys, F, nb, mo, rfl, _⟩ := h
    rfl
  · obtain ⟨R, ys, F, nb, mo, rfl, hR1, py, ok, nb40, mo40, q⟩ := h
    have nd := scNms.nd
    have hu := hu_of hr
    refine ⟨_, (pss_cons (ps_set (i := 4) nd rfl (.inr rfl) (pe_dc (own := [("label", 1), ("_", 10), ("read", 2), ("given", 3)]) (g := gTup K 4 (gCons (gName 1) (gCons (gName 10) (gCons (gName 2) (gCons (gName 3) gNil))))) (tt := tYes) rfl nd (pi_list (pv 0)) (blkOk_by (N := NQ) (sc := defScope sNms) (by decide +kernel)) (fun _ _ _ _ _ => (pg_tup rfl (pgs_cons (pg_name (i := 1) nd rfl (.inl rfl)) (pgs_cons (pg_name (i := 10) nd rfl (.inl rfl)) (pgs_cons (pg_name (i := 2) nd rfl (.inl rfl)) (pgs_cons (pg_name (i := 3) nd rfl (.inl rfl)) pgs_nil)))))) (fun _ _ _ _ _ => pts_nil) (fun _ _ _ _ _ => pv 1) (fun _ _ _ _ _ => pe_callTy call_dictD (by rfl) mdi (by decide +kernel) (pa_cons (pv 2) pa_nil)))) (pss_cons (ps_set (i := 5) nd rfl (.inl rfl) pe_bl) (pss_cons (ps_while PassesOwn.never (pt_val (pv 5)) (pss_cons (ps_set (i := 5) nd rfl (.inl rfl) pe_bl) (pss_one (ps_for PassesOwn.never rfl (RT.pi_revA (by rfl) mrv (pv 0)) (pg_tup rfl (pgs_cons (pg_name (i := 1) nd rfl (.inl rfl)) (pgs_cons (pg_name (i := 6) nd rfl (.inl rfl)) (pgs_cons (pg_name (i := 2) nd rfl (.inl rfl)) (pgs_cons (pg_name (i := 3) nd rfl (.inr rfl)) pgs_nil))))) (pss_cons (ps_set (i := 7) nd rfl (.inr rfl) (pe_dget hu (pv 4) (pv 1) (fun _ _ => rfl))) (pss_cons (ps_lock (ps_lock (ps_setLc2 (i := 9) (own := [("target", 11), ("name", 8)]) (vs1 := [8]) (g := gName 11) (tt := tYes) (g1 := gName 8) (tt1 := _) (by rfl) nd rfl rfl (sw_true rfl rfl rfl (by decide +kernel)) (pi_tup (pv 6)) (blkOk_by (N := NQ) (sc := defScope sNms) (by decide +kernel)) (by decide) (fun _ _ _ _ _ => (pg_name (i := 11) nd rfl (.inl rfl))) (fun _ _ _ _ _ => pts_nil) (fun _ _ _ _ _ => pi_keys (pe_dget hu (pv 4) (pv 11) (fun _ _ => rfl))) (fun _ _ _ _ _ => (pg_name (i := 8) nd rfl (.inl rfl))) (fun _ _ _ _ _ => pts_one (PW.pt (pw_and (pt_cmp (pc_dnotin hu (pv 8) (pv 3))) (pw_and1 (pt_cmp (pc_dnotin hu (pv 8) (pv 7))))))) (fun _ _ _ _ _ => pv 8)))) (pss_one (ps_for PassesOwn.never rfl (pi_list (pv 9)) (pg_name (i := 8) nd rfl (.inl rfl)) (pss_cons (ps_dput hu (pv 7) (pv 8) pe_bl rfl) (pss_one (ps_set (i := 5) nd rfl (.inl rfl) pe_bl))))))))))) (pss_one (ps_ret (pv 4)))))), ?_⟩
    have ly : ys.length = F.blocks.length := py.length.symm
    have bn := ok.bn
    -- live
    refine ⟨_, rfl, R, rfl, ⟨_, .of hR1⟩, fun LA hLA => dc_list (K := K) (a := R) (xs := ys) (fun i H' => ∃ (kl : List (Key × V)) (ds : List Addr), H' LA = some (.dK kl) ∧ kl.length ≤ i ∧ ds.length = i ∧ ds.Nodup ∧ Same H1 H' ∧ (∀ d ∈ ds, H1 d = none ∧ d ≠ LA) ∧
        ∀ (j : Nat) (b : Bl), j < i → F.blocks[j]? = some b → ∃ (d : Addr) (u : List Nat), ds[j]? = some d ∧ valV kl (Sum.inl (b.label : Int)) = some (.ref d) ∧ H' d = some (.dK (kvOf u)) ∧ Us u ∧ ∀ x, x ∈ u ↔ usedB x (itsOf b) = true)
      ⟨[], [], upd_same, Nat.le_refl _, rfl, List.nodup_nil, same_new hLA, (fun d h => by cases h), fun j b h => absurd h (Nat.not_lt_zero _)⟩ ?_ ?_ ?_⟩
    · rintro i H' _ ⟨_, _, _, _, _, _, sm, _⟩
      exact .of (sm _ _ hR1)
    · rintro i x H2 hx ⟨kl, ds, hL, lk, ld, nds, s2, fr, hj⟩
      obtain ⟨b, hb, ta, wa, ua, pa, u, p, rfl, h1, h2, h4, h5, us, up, mu, mp⟩ := prd_get' py hx
      have il : i < F.blocks.length := (List.getElem?_eq_some_iff.mp hb).1
      have h1' := s2 _ _ h1
      have h4' := s2 _ _ h4
      refine ⟨ta, _, rfl, .of h1', rfl, _, _, rfl, _, _, rfl, _, _, rfl, _, _, rfl, rfl, rfl, tYes_go ?_⟩
      refine ⟨_, rfl, _, rfl, ua, _, rfl, .of h4', fun d hd => ?_⟩
      have nLd : LA ≠ d := ne_of_none hL hd
      refine ⟨kl, Sum.inl (b.label : Int), rfl, by rw [upd_ne nLd]; exact hL, big (by omega), ?_⟩
      have hd1 : H1 d = none := by
        cases hz : H1 d with
        | none => rfl
        | some o =>
          rw [s2 d o hz] at hd
          cases hd
      have hLA1 : H1 LA = none := hLA
      refine ⟨_, ds ++ [d], upd_same, Nat.le_trans (length_putK _ _ _) (by omega), by rw [List.length_append, ld]; rfl, ?_, sput (s2.trans (same_new hd)) hLA, ?_, ?_⟩
      · rw [List.nodup_append]
        refine ⟨nds, List.nodup_cons.mpr ⟨by simp, List.nodup_nil⟩, fun a ha c hc e => ?_⟩
        rw [List.mem_singleton.mp hc] at e
        obtain ⟨k, hk⟩ := List.mem_iff_getElem?.mp ha
        have kl' : k < ds.length := (List.getElem?_eq_some_iff.mp hk).1
        obtain ⟨d', u', e1, _, e3, _⟩ := hj k (F.blocks[k]'(by omega)) (by omega) (List.getElem?_eq_getElem _)
        rw [hk] at e1
        cases e1
        rw [e, hd] at e3
        cases e3
      · intro c hc
        rcases List.mem_append.mp hc with h | h
        · exact fr c h
        · rw [List.mem_singleton.mp h]
          exact ⟨hd1, nLd.symm⟩
      · intro j c hji hc
        rw [valV_put]
        by_cases e : j = i
        · subst e
          rw [hb] at hc
          cases hc
          refine ⟨d, u, by rw [List.getElem?_append_right (by omega), ld, Nat.sub_self]; rfl, by rw [if_pos rfl], by rw [upd_ne nLd.symm]; exact upd_same, us, mu⟩
        · obtain ⟨d', u', e1, e2, e3, e4⟩ := hj j c (by omega) hc
          have jl : j < ds.length := (List.getElem?_eq_some_iff.mp e1).1
          have nlab : ¬ (Sum.inl (c.label : Int) : Key) = Sum.inl (b.label : Int) := fun z => e (nd_get ok.nd (x := b.label) (by rw [List.getElem?_map, hc]; show some c.label = _; rw [key_eq.mp z]) (by rw [List.getElem?_map, hb]; rfl))
          rw [if_neg nlab]
          refine ⟨d', u', by rw [List.getElem?_append_left jl]; exact e1, e2, ?_, e4⟩
          rw [upd_ne (fr d' (List.mem_of_getElem? e1)).2, upd_ne (ne_of_none e3 hd)]
          exact e3
    rintro H2 ⟨kl, ds, hL, lk, ld, nds, s2, fr, hj⟩
    rw [ly] at ld hj
    have hS : ∃ S : Nat → List Nat, ∀ (j : Nat) (b : Bl), F.blocks[j]? = some b → ∃ d : Addr, ds[j]? = some d ∧ valV kl (Sum.inl (b.label : Int)) = some (.ref d) ∧ H2 d = some (.dK (kvOf (S j))) ∧ Us (S j) ∧ ∀ x, x ∈ S j ↔ usedB x (itsOf b) = true := by
      have h : ∀ j : Nat, ∃ u : List Nat, ∀ b, F.blocks[j]? = some b → ∃ d : Addr, ds[j]? = some d ∧ valV kl (Sum.inl (b.label : Int)) = some (.ref d) ∧ H2 d = some (.dK (kvOf u)) ∧ Us u ∧ ∀ x, x ∈ u ↔ usedB x (itsOf b) = true := fun j => by
        cases e : F.blocks[j]? with
        | none => exact ⟨[], fun b h => by cases h⟩
        | some b =>
          obtain ⟨d, u, h⟩ := hj j b (List.getElem?_eq_some_iff.mp e).1 e
          exact ⟨u, fun b' hb' => by
            cases hb'
            exact ⟨d, h⟩⟩
      exact ⟨fun j => (h j).choose, fun j => (h j).choose_spec⟩
    obtain ⟨S, hS⟩ := hS
    have L0 : LvSt F H1 H2 LA kl ds S := ⟨s2, hL, fun j b hb => by
      obtain ⟨d, a1, a2, a3, a4, a5⟩ := hS j b hb
      refine ⟨d, a1, a2, a3, a4, fun x hx => (a5 x).mpr hx, fun x hx => .use (by simp) ?_⟩
      rw [blk_at ok.nd hb]
      exact (a5 x).mp hx⟩
    clear hj hS
    have len10 : ∀ {S : Nat → List Nat} {H' : Hp}, LvSt F H1 H' LA kl ds S → ∀ j, j < F.blocks.length → (S j).length ≤ 10 := fun L j hj => by
      obtain ⟨d, _, _, _, us, _⟩ := L.at_ j _ (List.getElem?_eq_getElem hj)
      exact us.len
    -- while changed
    refine ⟨fun m σ H' => ∃ (S : Nat → List Nat) (c : Bool) (y1 y2 y3 y6 y7 y8 y9 y10 y11 : Option V), σ = [some (.ref R), y1, y2, y3, some (.ref LA), some (.bl c), y6, y7, y8, y9, y10, y11] ∧ LvSt F H1 H' LA kl ds S ∧
        m + tot S F.blocks.length = 10 * F.blocks.length + (if c = true then 1 else 0) ∧ (c = false → ∀ (j : Nat) (b : Bl), F.blocks[j]? = some b → ClB F S j b),
      ⟨10 * F.blocks.length + 1 - tot S F.blocks.length, S, true, none, none, none, none, none, none, none, none, none, rfl, L0, (by
        have := tot_le (n := F.blocks.length) (len10 L0)
        rw [if_pos rfl]
        omega), fun h => by cases h⟩, ?_⟩
    rintro m σ H3 ⟨S, c, y1, y2, y3, y6, y7, y8, y9, y10, y11, rfl, L3, hm, hclo⟩
    refine ⟨_, rfl, _, rfl, ?_⟩
    cases c with
    | true =>
      refine iteT ?_
      refine ⟨fun σ' H' => ∃ m', m' < m ∧ ∃ (S : Nat → List Nat) (c : Bool) (y1 y2 y3 y6 y7 y8 y9 y10 y11 : Option V), σ' = [some (.ref R), y1, y2, y3, some (.ref LA), some (.bl c), y6, y7, y8, y9, y10, y11] ∧ LvSt F H1 H' LA kl ds S ∧
        m' + tot S F.blocks.length = 10 * F.blocks.length + (if c = true then 1 else 0) ∧ (c = false → ∀ (j : Nat) (b : Bl), F.blocks[j]? = some b → ClB F S j b), fun σ' H' h => h, ?_⟩
      refine ⟨_, rfl, R, ys, rfl, .inl ⟨.of (L3.sm _ _ hR1), for_it (walk_rev (K := K) (a := R) (xs := ys)) (fun i σ H' => ∃ (T : Nat → List Nat) (c : Bool) (y1 y2 y3 y6 y7 y8 y9 y10 y11 : Option V), σ = [some (.ref R), y1, y2, y3, some (.ref LA), some (.bl c), y6, y7, y8, y9, y10, y11] ∧ LvSt F H1 H' LA kl ds T ∧
          (∀ j, (S j).length ≤ (T j).length) ∧ (c = true → tot S F.blocks.length < tot T F.blocks.length) ∧ (c = false → ∀ (j : Nat) (b : Bl), F.blocks.length ≤ j + i → F.blocks[j]? = some b → ClB F T j b))
        ⟨S, false, y1, y2, y3, y6, y7, y8, y9, y10, y11, rfl, L3, fun _ => Nat.le_refl _, (fun h => by cases h), fun _ j b hj hb => absurd (List.getElem?_eq_some_iff.mp hb).1 (by omega)⟩ ?_ ?_ ?_⟩⟩
      · rintro i σ H' _ ⟨T, c, _, _, _, _, _, _, _, _, _, _, L, _⟩
        exact .of (L.sm _ _ hR1)
      · rintro i x σ H4 H4' hi ⟨T, c, y1, y2, y3, y6, y7, y8, y9, y10, y11, rfl, L4, ge, lt, clo⟩ ⟨rfl, hx⟩
        rw [ly] at hx hi
        obtain ⟨b, hb, row⟩ := prd_get' py hx
        have hjn : F.blocks.length ≤ (F.blocks.length - 1 - i) + (i + 1) := by omega
        have hjx : ∀ j', F.blocks.length ≤ j' + (i + 1) → j' ≠ F.blocks.length - 1 - i → F.blocks.length ≤ j' + i := fun j' h1 h2 => by omega
        generalize F.blocks.length - 1 - i = j at hx hb hjn hjx
        obtain ⟨ta, wa, ua, pa, u, p, rfl, h1, h2, h4, h5, us, up, mu, mp⟩ := RowAt.same L4.sm row
        obtain ⟨dm, a1, a2, a3, a4, a5, a6⟩ := L4.at_ j b hb
        have bok := ok.ok b (List.mem_of_getElem? hb)
        have jl : j < F.blocks.length := (List.getElem?_eq_some_iff.mp hb).1
        refine ⟨ta, _, rfl, .of h1, rfl, _, _, rfl, _, _, rfl, _, _, rfl, _, _, rfl, rfl, ?_⟩
        have hget : DGet H4' LA (.int (b.label : Int)) (some (.ref dm)) := by
          have := DGet.k (k := Sum.inl (b.label : Int)) L4.la
          rw [a2] at this
          exact this
        refine ⟨_, rfl, _, rfl, LA, _, rfl, hget, ?_⟩
        -- the ways' dicts
        have one : ∀ m ∈ wys b.fin, ∃ (k : Nat) (c : Bl) (dk : Addr), F.blocks[k]? = some c ∧ c.label = m ∧ ds[k]? = some dk ∧ H4' dk = some (.dK (kvOf (T k))) ∧ valV kl (Sum.inl (m : Int)) = some (.ref dk) := fun m hm => by
          obtain ⟨k, c, hk, hl⟩ := lab_ix (List.mem_of_mem_tail (wys_in bok.2.2 m hm))
          obtain ⟨dk, b1, b2, b3, _⟩ := L4.at_ k c hk
          exact ⟨k, c, dk, hk, hl, b1, b3, by rw [← hl]; exact b2⟩
        have sameK : ∀ {k k' : Nat} {c c' : Bl}, F.blocks[k]? = some c → F.blocks[k']? = some c' → c.label = c'.label → k = k' := fun {k k' c c'} e1 e2 e3 => nd_get ok.nd (x := c.label) (by rw [List.getElem?_map, e1]; rfl) (by rw [List.getElem?_map, e2, e3]; rfl)
        have nLd : ∀ d ∈ ds, d ≠ LA := fun d hd => (fr d hd).2
        obtain ⟨d1, d2, k1, k2, g1, g2, n12, gw⟩ : ∃ (d1 d2 : Addr) (k1 k2 : List (Key × V)), H4' d1 = some (.dK k1) ∧ H4' d2 = some (.dK k2) ∧ d1 ≠ d2 ∧ ∀ m ∈ wys b.fin, ∀ (k : Nat) (c : Bl) (dk : Addr), F.blocks[k]? = some c → c.label = m → ds[k]? = some dk → dk = d1 ∨ dk = d2 := by
          have wl := wys_len b.fin
          have wn := wys_nd b.fin
          cases hw : wys b.fin with
          | nil => exact ⟨dm, LA, _, _, a3, L4.la, nLd dm (List.mem_of_getElem? a1), fun m hm => by cases hm⟩
          | cons m r =>
            obtain ⟨k, c, dk, e1, e2, e3, e4, _⟩ := one m (by rw [hw]; exact List.mem_cons_self)
            cases hr2 : r with
            | nil =>
              refine ⟨dk, LA, _, _, e4, L4.la, nLd dk (List.mem_of_getElem? e3), fun m' hm' k' c' dk' q1 q2 q3 => .inl ?_⟩
              rw [List.mem_singleton.mp hm'] at q2
              have := sameK q1 e1 (q2.trans e2.symm)
              subst this
              rw [q3] at e3
              exact Option.some.inj e3
            | cons m2 r2 =>
              obtain ⟨kk, cc, dkk, f1, f2, f3, f4, _⟩ := one m2 (by rw [hw, hr2]; simp)
              have r2n : r2 = [] := by
                rw [hw, hr2] at wl
                cases r2 with
                | nil => rfl
                | cons y t => simp at wl
              subst r2n
              rw [hw, hr2] at wn
              have nm : m ≠ m2 := fun z => by
                rw [z] at wn
                simp at wn
              refine ⟨dk, dkk, _, _, e4, f4, fun z => ?_, fun m' hm' k' c' dk' q1 q2 q3 => ?_⟩
              · have : k = kk := nd_get nds (x := dk) e3 (by rw [f3, z])
                subst this
                rw [e1] at f1
                cases f1
                exact nm (e2.symm.trans f2)
              · rcases List.mem_cons.mp hm' with rfl | hm'
                · have := sameK q1 e1 (q2.trans e2.symm)
                  subst this
                  rw [q3] at e3
                  exact .inl (Option.some.inj e3)
                · rw [List.mem_singleton.mp hm'] at q2
                  have := sameK q1 f1 (q2.trans f2.symm)
                  subst this
                  rw [q3] at f3
                  exact .inr (Option.some.inj f3)
        refine ⟨d1, .dK k1, g1, trivial, fun od1 => ⟨d2, .dK k2, by rw [upd_ne n12.symm]; exact g2, trivial, fun od2 => ?_⟩⟩
        have rdl : ∀ {a : Addr} {v : HO}, H4' a = some v → Rd (lk2 H4' d1 d2 od1 od2 (.dK k1) (.dK k2)) a v := fun h => lk2_rd g1 g2 h
        have hwa : lk2 H4' d1 d2 od1 od2 (.dK k1) (.dK k2) wa = some (.tup (iv (wys b.fin))) := by
          unfold lk2
          rw [upd_ne (ne_of h2 g2 (by intro z; cases z)), upd_ne (ne_of h2 g1 (by intro z; cases z))]
          exact h2
        have frzW : ∀ (k : Nat) (c : Bl) (dk : Addr), F.blocks[k]? = some c → c.label ∈ wys b.fin → ds[k]? = some dk → H4' dk = some (.dK (kvOf (T k))) → ∃ o, lk2 H4' d1 d2 od1 od2 (.dK k1) (.dK k2) dk = some (.frz o (.dK (kvOf (T k)))) := fun k c dk e1 e2 e3 e4 => lk2_at n12 g1 g2 (gw _ e2 k c dk e1 rfl e3) e4
        show tAsg _ _ _ _ (lk2 H4' d1 d2 od1 od2 (.dK k1) (.dK k2))
        have back := fun B => lk2_back (B := B) (o1 := od1) (o2 := od2) n12 g1 g2
        generalize lk2 H4' d1 d2 od1 od2 (.dK k1) (.dK k2) = Lk at rdl hwa frzW back ⊢
        refine ⟨_, rfl, wa, rfl, ⟨_, .of hwa⟩, fun D hD => turn_it (walk_tup (K := K) (a := wa) (xs := iv (wys b.fin))) (fun i Hc => ∃ ms : List Nat, Hc D = some (.lst (iv ms)) ∧ ms.length ≤ 10 * i ∧ Same Lk Hc ∧
            (∀ x ∈ ms, (∃ (k : Nat) (c : Bl), F.blocks[k]? = some c ∧ c.label ∈ wys b.fin ∧ x ∈ T k) ∧ ¬ x ∈ p ∧ ¬ x ∈ T j) ∧
            ∀ (k : Nat) (c : Bl), F.blocks[k]? = some c → c.label ∈ (wys b.fin).take i → ∀ x ∈ T k, ¬ x ∈ p → x ∈ T j ∨ x ∈ ms)
          ⟨[], upd_same, Nat.le_refl _, same_new hD, (fun x h => by cases h), fun k c _ h => by simp at h⟩ ?_ ?_ ?_⟩
        · rintro i Hc _ ⟨ms, _, _, sm, _⟩
          exact .of (sm _ _ hwa)
        · rintro i1 y Hc Hc' hi1 ⟨ms, hms, lms, sm, snd, cpl⟩ ⟨rfl, hy⟩
          have hi1' : i1 < (wys b.fin).length := by
            rw [List.length_map] at hi1
            exact hi1
          obtain rfl : y = .int ((wys b.fin)[i1] : Int) := by
            rw [iv_get hi1'] at hy
            exact (Option.some.inj hy).symm
          obtain ⟨k, c, dk, e1, e2, e3, e4, e5⟩ := one _ (List.getElem_mem hi1')
          have hcw : c.label ∈ wys b.fin := by
            rw [e2]
            exact List.getElem_mem hi1'
          obtain ⟨o, hfz⟩ := frzW k c dk e1 hcw e3 e4
          have usk : Us (T k) := by
            obtain ⟨_, _, _, _, q4, _⟩ := L4.at_ k c e1
            exact q4
          have hgw : DGet Hc' LA (.int ((wys b.fin)[i1] : Int)) (some (.ref dk)) := .inl ⟨kl, Sum.inl ((wys b.fin)[i1] : Int), Rd.same sm (rdl L4.la), rfl, e5.symm⟩
          refine ⟨rfl, tYes_go ?_⟩
          refine ⟨_, rfl, _, rfl, LA, _, rfl, hgw, dk, o, rfl, .inl ⟨_, sm _ _ hfz, turn_it (walk_keys (d := dk) (o := o) (kvs := kvOf (T k))) (fun n Hc => ∃ ms : List Nat, Hc D = some (.lst (iv ms)) ∧ ms.length ≤ 10 * i1 + n ∧ Same Lk Hc ∧
              (∀ x ∈ ms, (∃ (k : Nat) (c : Bl), F.blocks[k]? = some c ∧ c.label ∈ wys b.fin ∧ x ∈ T k) ∧ ¬ x ∈ p ∧ ¬ x ∈ T j) ∧
              (∀ (k : Nat) (c : Bl), F.blocks[k]? = some c → c.label ∈ (wys b.fin).take i1 → ∀ x ∈ T k, ¬ x ∈ p → x ∈ T j ∨ x ∈ ms) ∧ ∀ x ∈ (T k).take n, ¬ x ∈ p → x ∈ T j ∨ x ∈ ms)
            ⟨ms, hms, lms, sm, snd, cpl, fun x h => by simp at h⟩ ?_ ?_ ?_⟩⟩
          · rintro n Hd _ ⟨ms, _, _, sm, _⟩
            exact sm _ _ hfz
          · rintro n z Hd Hd' hn ⟨ms, hms, lms, sm, snd, cpl, cpn⟩ ⟨rfl, key, vv, hkv, rfl⟩
            have hn' : n < (T k).length := by
              unfold kvOf at hn
              rw [List.length_map] at hn
              exact hn
            obtain rfl : key = Sum.inl ((T k)[n] : Int) := by
              unfold kvOf at hkv
              rw [List.getElem?_map, List.getElem?_eq_getElem hn'] at hkv
              have := Option.some.inj hkv
              exact (congrArg Prod.fst this).symm
            have etn : ∀ x, x ∈ (T k).take (n + 1) ↔ x ∈ (T k).take n ∨ x = (T k)[n] := fun x => by
              rw [List.take_add_one, List.getElem?_eq_getElem hn', List.mem_append]
              simp
            have xin : (T k)[n] ∈ T k := List.getElem_mem hn'
            have l10 := usk.len
            have wl := wys_len b.fin
            have dg1 : DGet Hd' pa (.int ((T k)[n] : Int)) (valV (kvOf p) (Sum.inl ((T k)[n] : Int))) := .inl ⟨_, Sum.inl ((T k)[n] : Int), Rd.same sm (rdl h5), rfl, rfl⟩
            have dg2 : DGet Hd' dm (.int ((T k)[n] : Int)) (valV (kvOf (T j)) (Sum.inl ((T k)[n] : Int))) := .inl ⟨_, Sum.inl ((T k)[n] : Int), Rd.same sm (rdl a3), rfl, rfl⟩
            have skip : ((T k)[n] ∈ p ∨ (T k)[n] ∈ T j) → ∃ ms : List Nat, Hd' D = some (.lst (iv ms)) ∧ ms.length ≤ 10 * i1 + (n + 1) ∧ Same Lk Hd' ∧
                (∀ x ∈ ms, (∃ (k : Nat) (c : Bl), F.blocks[k]? = some c ∧ c.label ∈ wys b.fin ∧ x ∈ T k) ∧ ¬ x ∈ p ∧ ¬ x ∈ T j) ∧
                (∀ (k : Nat) (c : Bl), F.blocks[k]? = some c → c.label ∈ (wys b.fin).take i1 → ∀ x ∈ T k, ¬ x ∈ p → x ∈ T j ∨ x ∈ ms) ∧ ∀ x ∈ (T k).take (n + 1), ¬ x ∈ p → x ∈ T j ∨ x ∈ ms := fun h => by
              refine ⟨ms, hms, by omega, sm, snd, cpl, fun x hx hp => ?_⟩
              rcases (etn x).mp hx with h' | rfl
              · exact cpn x h' hp
              · exact h.elim (fun z => absurd z hp) .inl
            refine ⟨rfl, ?_⟩
            refine ⟨_, rfl, _, rfl, pa, _, rfl, dg1, _, rfl, ?_⟩
            rw [valV_kvOf]
            by_cases hinp : (T k)[n] ∈ p
            · rw [if_pos hinp]
              exact iteF (iteF (skip (.inl hinp)))
            · rw [if_neg hinp]
              refine iteT ?_
              refine ⟨_, rfl, _, rfl, dm, _, rfl, dg2, _, rfl, ?_⟩
              rw [valV_kvOf]
              by_cases hinj : (T k)[n] ∈ T j
              · rw [if_pos hinj]
                exact iteF (skip (.inr hinj))
              · rw [if_neg hinj]
                refine iteT ?_
                refine ⟨_, rfl, _, hms, by rw [List.length_map]; exact big (by omega), ms ++ [(T k)[n]], ?_, by rw [List.length_append]; show ms.length + 1 ≤ _; omega, sput sm hD, ?_, ?_, ?_⟩
                · rw [upd_same]
                  unfold iv
                  rw [List.map_append]
                  rfl
                · intro x hx
                  rcases List.mem_append.mp hx with h | h
                  · exact snd x h
                  · rw [List.mem_singleton.mp h]
                    exact ⟨⟨k, c, e1, hcw, xin⟩, hinp, hinj⟩
                · intro k' c' q1 q2 x hx hp
                  exact (cpl k' c' q1 q2 x hx hp).imp id fun h => List.mem_append_left _ h
                · intro x hx hp
                  rcases (etn x).mp hx with h | rfl
                  · exact (cpn x h hp).imp id fun h => List.mem_append_left _ h
                  · exact .inr (List.mem_append_right _ List.mem_cons_self)
          · rintro Hd ⟨ms, hms, lms, sm, snd, cpl, cpn⟩
            have l10 := usk.len
            have lk' : (kvOf (T k)).length = (T k).length := by
              unfold kvOf
              rw [List.length_map]
            rw [lk', List.take_length] at cpn
            rw [lk'] at lms
            refine ⟨ms, hms, by omega, sm, snd, fun k' c' q1 q2 x hx hp => ?_⟩
            rw [List.take_add_one, List.getElem?_eq_getElem hi1'] at q2
            rcases List.mem_append.mp q2 with h | h
            · exact cpl k' c' q1 h x hx hp
            · have e : c'.label = (wys b.fin)[i1] := by simpa using h
              have := sameK q1 e1 (e.trans e2.symm)
              subst this
              exact cpn x hx hp
        rintro Hc ⟨ms, hms, lms, sm, snd, cpl⟩
        rw [List.length_map] at lms cpl
        rw [List.take_length] at cpl
        obtain ⟨bk1, bk2, bk3, bk4⟩ := back Hc sm
        refine ⟨bk1, bk2, ?_⟩
        have hmsN := bk4 D _ hD hms
        have L5 := L4.same bk3
        have hp5 := bk3 _ _ h5
        generalize upd (upd Hc d2 (.dK k2)) d1 (.dK k1) = Hn at bk3 hmsN L5 hp5 ⊢
        have nDd : D ≠ dm := fun z => by
          rw [z] at hmsN
          rw [bk3 _ _ a3] at hmsN
          cases hmsN
        have uni5 : ∀ x ∈ ms, x ∈ uni := fun x hx => by
          obtain ⟨⟨k, c, q1, _, q2⟩, _⟩ := snd x hx
          obtain ⟨_, _, _, _, q4, _⟩ := L4.at_ k c q1
          exact q4.un x q2
        -- for v in more
        refine ⟨_, rfl, D, rfl, ⟨_, .of hmsN⟩, for_list (K := K) (a := D) (xs := iv ms) (fun n σ H' => ∃ y8, σ = [some (.ref R), some (.int (b.label : Int)), some (.ref ua), some (.ref pa), some (.ref LA), some (.bl (c || decide (0 < n))), some (.ref wa), some (.ref dm), y8, some (.ref D), y10, y11] ∧
            H' dm = some (.dK (kvOf (addAll (T j) (ms.take n)))) ∧ KeepD dm Hn H') ⟨y8, by rw [show (c || decide (0 < 0)) = c by simp]; rfl, bk3 _ _ a3, fun b o e _ => e⟩ ?_ ?_ ?_⟩
        · rintro n σ H' _ ⟨y8, _, _, kp⟩
          exact .of (kp D _ hmsN nDd)
        · rintro n z σ H' hz ⟨y8, rfl, hd, kp⟩
          have hn : n < ms.length := by
            have := (List.getElem?_eq_some_iff.mp hz).1
            rw [List.length_map] at this
            exact this
          obtain rfl : z = .int (ms[n] : Int) := by
            rw [iv_get hn] at hz
            exact (Option.some.inj hz).symm
          have est : addAll (T j) (ms.take (n + 1)) = ins (addAll (T j) (ms.take n)) ms[n] := by
            rw [List.take_add_one, List.getElem?_eq_getElem hn, addAll_append]
            rfl
          have usn : Us (addAll (T j) (ms.take n)) := a4.addAll fun x hx => uni5 x (List.mem_of_mem_take hx)
          have l10 := usn.len
          refine ⟨_, rfl, _, rfl, dm, _, rfl, DPut.k (k := Sum.inl (ms[n] : Int)) hd (big (by unfold kvOf; rw [List.length_map]; omega)), ?_⟩
          refine ⟨some (.int (ms[n] : Int)), by rw [show (c || decide (0 < n + 1)) = true by simp]; rfl, ?_, fun b o e n => by rw [upd_ne n]; exact kp b o e n⟩
          rw [upd_same, put_kvOf, est]
        · rintro σ H' ⟨y8, rfl, hd, kp⟩
          rw [List.length_map, List.take_length] at hd
          rw [List.length_map]
          have nds' : ∀ {k : Nat} {d : Addr}, ds[k]? = some d → d = dm → k = j := fun {k d} e1 e2 => nd_get nds (x := d) e1 (by rw [a1, e2])
          have dm1 := (fr dm (List.mem_of_getElem? a1)).1
          let T2 : Nat → List Nat := fun k => if k = j then addAll (T j) ms else T k
          have T2j : T2 j = addAll (T j) ms := if_pos rfl
          have T2n : ∀ {k : Nat}, k ≠ j → T2 k = T k := fun h => if_neg h
          have L6 : LvSt F H1 H' LA kl ds T2 := ⟨fun a o e => kp a o (L5.sm a o e) (ne_of_none e dm1), kp _ _ L5.la (nLd dm (List.mem_of_getElem? a1)).symm, fun k c' hk => by
            obtain ⟨d, q1, q2, q3, q4, q5, q6⟩ := L5.at_ k c' hk
            by_cases e : k = j
            · subst e
              rw [hb] at hk
              cases hk
              rw [a1] at q1
              cases q1
              refine ⟨dm, a1, q2, by rw [T2j]; exact hd, by rw [T2j]; exact a4.addAll uni5, fun x hx => by rw [T2j]; exact mem_addAll.mpr (.inl (q5 x hx)), fun x hx => ?_⟩
              rw [T2j] at hx
              rcases mem_addAll.mp hx with h | h
              · exact q6 x h
              · obtain ⟨⟨k', c2, r1, r2, r3⟩, r4, _⟩ := snd x h
                obtain ⟨_, _, _, _, _, _, t6⟩ := L5.at_ k' c2 r1
                have eb := blk_at ok.nd hb
                refine .step (by simp) ?_ (by rw [eb]; exact r2) (t6 x r3)
                rw [eb]
                cases hz : setB x (itsOf b) with
                | false => rfl
                | true => exact absurd ((mp x).mpr hz) r4
            · rw [T2n e]
              exact ⟨d, q1, q2, kp _ _ q3 fun z => e (nds' q1 z), q4, q5, q6⟩⟩
          have ge2 : ∀ k, (T k).length ≤ (T2 k).length := fun k => by
            by_cases e : k = j
            · subst e
              rw [T2j]
              exact addAll_len _ _
            · rw [T2n e]
              exact Nat.le_refl _
          refine ⟨T2, c || decide (0 < ms.length), _, _, _, _, _, _, _, _, _, rfl, L6, fun k => Nat.le_trans (ge k) (ge2 k), fun h => ?_, fun h j' b' hj' hb' => ?_⟩
          · rcases Bool.or_eq_true _ _ ▸ h with h | h
            · exact Nat.lt_of_lt_of_le (lt h) (tot_mono ge2 _)
            · have hp0 := of_decide_eq_true h
              cases hms0 : ms with
              | nil =>
                rw [hms0] at hp0
                exact absurd hp0 (Nat.lt_irrefl 0)
              | cons x r =>
                refine Nat.lt_of_le_of_lt (tot_mono ge _) (tot_lt ge2 (i := j) ?_ jl)
                rw [T2j, hms0]
                exact addAll_lt (snd x (by rw [hms0]; exact List.mem_cons_self)).2.2
          · obtain ⟨hc0, hz⟩ := Bool.or_eq_false_iff.mp h
            have hms0 : ms = [] := by
              cases hq : ms with
              | nil => rfl
              | cons x r =>
                rw [hq] at hz
                exact absurd (of_decide_eq_false hz) (by simp)
            have eT : T2 = T := funext fun k => by
              by_cases e : k = j
              · subst e
                rw [T2j, hms0]
                rfl
              · exact T2n e
            rw [eT]
            by_cases e : j' = j
            · subst e
              rw [hb] at hb'
              cases hb'
              intro k c' q1 q2 x hx hs
              rcases cpl k c' q1 q2 x hx (fun z => by rw [(mp x).mp z] at hs; cases hs) with h | h
              · exact h
              · rw [hms0] at h
                cases h
            · exact clo hc0 j' b' (hjx j' hj' e) hb'
      · rintro σ H4 ⟨T, c, y1, y2, y3, y6, y7, y8, y9, y10, y11, rfl, L4, ge, lt, clo⟩
        rw [if_pos rfl] at hm
        have tl := tot_le (n := F.blocks.length) (len10 L4)
        have tm := tot_mono ge F.blocks.length
        refine ⟨10 * F.blocks.length + (if c = true then 1 else 0) - tot T F.blocks.length, ?_, T, c, y1, y2, y3, y6, y7, y8, y9, y10, y11, rfl, L4, ?_, fun h j b hb => clo h j b (by rw [ly]; omega) hb⟩
        · cases c with
          | true =>
            have := lt rfl
            rw [if_pos rfl]
            omega
          | false =>
            rw [if_neg Bool.false_ne_true]
            omega
        · omega
    | false =>
      refine iteF ?_
      have hcl := hclo rfl
      have mem : ∀ (j : Nat) (b : Bl), F.blocks[j]? = some b → ∀ x, x ∈ S j ↔ Lv F x [] b.label := fun j b hb x => by
        constructor
        · intro h
          obtain ⟨_, _, _, _, _, _, a6⟩ := L3.at_ j b hb
          exact a6 x h
        · intro h
          exact clo_live ok (fun j b hb x hx => by
            obtain ⟨_, _, _, _, _, a5, _⟩ := L3.at_ j b hb
            exact a5 x hx) hcl h j b hb rfl
      exact ⟨_, rfl, q LA kl ds S _ L3 mem⟩
theorem pa_star1 {X : Cx} {e : Expr} {es : List Expr} {p : Pos} {te : TE} {t : TA} (K0 : PySem.W.Frag) (hK : X.K = K0) (hs : starEach (.Starred e p :: es) X.env = (true, eval e X.env) :: starEach es X.env) (he : PE X e te) (hr : PA X es t) : PA X (.Starred e p :: es) (StX.tStar K0 te t) := by
  subst hK
  exact StX.pa_star he hr hs
theorem scLive : FnScope NV ["function"] (defScope sLive) := ⟨rfl, rfl, rfl, by decide +kernel, rfl, by decide +kernel, by decide +kernel⟩
theorem ok_live {f : Addr} {fd : FuncData} (F : Fun K "live_in" "live_in" sLive f fd) (mtu : mg "tuple" = none) (mso : mg "sorted" = none)
    (GN : Got P w K mg base 1 "live_names" ["rows"] spNms) (GS : Got P w K mg base 1 "successors" ["block"] spSucc) (GU : Got P w K mg base 6 "_uses_and_sets" ["block"] spUS) : FnOk P w K mg base CX0 7 f fd ["function"] spLive := by
  obtain ⟨fN, fdN, GN, mN, kN, bN⟩ := GN.ex
  obtain ⟨fS, fdS, GS, mS, kS, bS⟩ := GS.ex
  obtain ⟨fU, fdU, GU, mU, kU, bU⟩ := GU.ex
  refine F.ok scLive (fun vs H Q E h => ?_) (fun cdv A outer s H vs Q E hr h => ?_)
  · obtain ⟨fv, F, nb, mo, rfl, _⟩ := h
    rfl
  · obtain ⟨fv, F, nb, mo, rfl, ⟨fa, ba, rows, rfl, hfa, hba, pr⟩, ok, nb40, mo40, q⟩ := h
    have nd := scLive.nd
    have hu := hu_of hr
    have hrS : Room 1 _ := hr.mono (by decide)
    have hrN : Room 1 _ := hr.mono (by decide)
    have hrU : Room 6 _ := hr
    refine ⟨_, (pss_cons (ps_set (i := 1) nd rfl (.inl rfl) (pe_ix (r := rIxT K) ix_tup (pv 0) pe_int (fun _ _ => rfl))) (pss_cons (ps_set (i := 2) nd rfl (.inr rfl) (pe_call GN hrN (by rfl) mN kN bN .nil pass0 (pa_cons (pe_lc (own := [("block", 3)]) (g := gName 3) (tt := tYes) rfl nd (pi_tup (pv 1)) (blkOk_by (N := NV) (sc := defScope sLive) (by decide +kernel)) (fun _ _ _ _ _ => (pg_name (i := 3) nd rfl (.inl rfl))) (fun _ _ _ _ _ => pts_nil) (fun _ _ _ _ _ => (pe_tup (pa_cons (pe_ix (r := rIxT K) ix_tup (pv 3) pe_int (fun _ _ => rfl)) (pa_cons (pe_call GS hrS (by rfl) mS kS bS .nil pass0 (pa_cons (pv 3) pa_nil)) (pa_star1 K rfl rfl (pe_call GU hrU (by rfl) mU kU bU .nil pass0 (pa_cons (pv 3) pa_nil)) pa_nil)))))) pa_nil))) (pss_one (ps_ret (pe_lc (own := [("block", 3)]) (g := gName 3) (tt := tYes) rfl nd (pi_tup (pv 1)) (blkOk_by (N := NV) (sc := defScope sLive) (by decide +kernel)) (fun _ _ _ _ _ => (pg_name (i := 3) nd rfl (.inl rfl))) (fun _ _ _ _ _ => pts_nil) (fun _ _ _ _ _ => (pe_tup (pa_cons (pe_ix (r := rIxT K) ix_tup (pv 3) pe_int (fun _ _ => rfl)) (pa_cons (pe_callTy (T := "tuple") (r := rTupOf K) call_tuple_of (by rfl) mtu (by decide +kernel) (pa_cons (pe_callB (call_sortedDI rfl) (by rfl) mso (by decide +kernel) (pa_cons (pe_dget hu (pv 2) (pe_ix (r := rIxT K) ix_tup (pv 3) pe_int (fun _ _ => rfl)) (fun _ _ => rfl)) pa_nil)) pa_nil)) pa_nil))))))))), ?_⟩
    have rl : rows.length = F.blocks.length := pr.length.symm
    have bn := ok.bn
    -- rows
    refine ⟨_, rfl, fa, _, _, _, rfl, rfl, .of hfa, atI_nat (j := 2) rfl, ?_⟩
    refine ⟨_, rfl, ba, rfl, ⟨_, .of hba⟩, fun R hR => lc_tup (xs := rows) (fun i H' => ∃ ys, H' R = some (.lst ys) ∧ ys.length = i ∧ Paired (RowAt H') (F.blocks.take i) ys ∧ Same H H') ⟨[], upd_same, rfl, .nil, same_new hR⟩ ?_ ?_ ?_⟩
    · rintro i H' _ ⟨_, _, _, _, sm⟩
      exact .of (sm _ _ hba)
    · rintro i x H1 hx ⟨ys, hR1, ly, py, s1⟩
      obtain ⟨b, hb, at1⟩ := prd_get' pr hx
      have il : i < F.blocks.length := (List.getElem?_eq_some_iff.mp hb).1
      have bok := ok.ok b (List.mem_of_getElem? hb)
      have at1' := at1.mono (Tups.of s1)
      obtain ⟨ai, si, ui, vi, rfl, hai, _⟩ := id at1'
      refine ⟨rfl, tYes_go ?_⟩
      refine ⟨_, rfl, ai, _, _, _, rfl, rfl, .of hai, atI_nat (j := 0) rfl, _, rfl, _, b, rfl, at1', fun wa H2 s2 hw => ?_⟩
      refine ⟨_, rfl, _, b, F.width, mo, _, rfl, at1'.mono (Tups.of s2), bok, mo40, fun ga ua pa u p H3 s3 hg hua hpa us up mu mp nua npa nup => ⟨ga, _, rfl, .inl (.of hg), ⟨(by show 4 ≤ sizeLine; decide), fun ta hta => ?_⟩⟩⟩
      have s4 := same_new (o := .tup [.int (b.label : Int), .ref wa, .ref ua, .ref pa]) hta
      have s14 := (s2.trans s3).trans s4
      have hR4 := s14 _ _ hR1
      have row : RowAt (upd H3 ta (.tup [.int (b.label : Int), .ref wa, .ref ua, .ref pa])) b (.ref ta) := ⟨ta, wa, ua, pa, u, p, rfl, upd_same, s4 _ _ (s3 _ _ hw), s4 _ _ hua, s4 _ _ hpa, us, up, mu, mp⟩
      have kp : ∀ (A : Hp) (o : HO), KeepD R A (upd A R o) := fun A o c q e n => by
        rw [upd_ne n]
        exact e
      refine ⟨ys, hR4, by rw [ly]; exact big (by omega), ys ++ [.ref ta], upd_same, by rw [List.length_append, ly]; rfl, ?_, sput (s1.trans s14) hR⟩
      rw [List.take_add_one, hb]
      exact prd_app (L2.Paired.mapP py fun _ _ h => RowAt.keep (kp _ _) hR4 (RowAt.same s14 h)) (.cons (RowAt.keep (kp _ _) hR4 row) .nil)
    rintro H1 ⟨ys, hR1, ly, py, s1⟩
    rw [rl, List.take_length] at py
    refine ⟨R, ys, F, nb, mo, rfl, hR1, py, ok, nb40, mo40, fun LA kl ds S H3 L3 mem => ?_⟩
    have s03 := s1.trans L3.sm
    refine ⟨_, rfl, ba, rfl, ⟨_, .of (s03 _ _ hba)⟩, fun D hD => lc_tup (xs := rows) (fun i H' => ∃ zs, H' D = some (.lst zs) ∧ zs.length = i ∧ Paired (LiveRow F H') (F.blocks.take i) zs ∧ Same H3 H') ⟨[], upd_same, rfl, .nil, same_new hD⟩ ?_ ?_ ?_⟩
    · rintro i H' _ ⟨_, _, _, _, sm⟩
      exact .of (sm _ _ (s03 _ _ hba))
    · rintro i x H4 hx ⟨zs, hD4, lz, pz, s4⟩
      obtain ⟨b, hb, at1⟩ := prd_get' pr hx
      have il : i < F.blocks.length := (List.getElem?_eq_some_iff.mp hb).1
      have at1' := at1.mono (Tups.of (s03.trans s4))
      obtain ⟨ai, si, ui, vi, rfl, hai, _⟩ := id at1'
      have L4 := L3.same s4
      obtain ⟨d, a1, a2, a3, a4, _⟩ := L4.at_ i b hb
      refine ⟨rfl, tYes_go ?_⟩
      have hget : DGet H4 LA (.int (b.label : Int)) (some (.ref d)) := by
        have := DGet.k (k := Sum.inl (b.label : Int)) L4.la
        rw [a2] at this
        exact this
      refine ⟨_, rfl, ai, _, _, _, rfl, rfl, .of hai, atI_nat (j := 0) rfl, _, rfl, _, rfl, ai, _, _, _, rfl, rfl, .of hai, atI_nat (j := 0) rfl, LA, _, rfl, hget, ?_⟩
      refine ⟨d, _, (S i).map fun k : Nat => (k : Int), rfl, .of a3, ?_, ?_, fun yz p pm so hp => ?_⟩
      · unfold kvOf
        rw [List.map_map, List.map_map]
        rfl
      · rw [List.length_map]
        have := a4.len
        omega
      · obtain ⟨ul, rfl, us1, us2⟩ := sorted_set a4.nd pm so
        refine ⟨p, _, rfl, .inl ⟨.of upd_same, fun t ht => ?_⟩⟩
        refine ⟨(by show 2 ≤ sizeLine; decide), fun r hr' => ?_⟩
        have sp := same_new (o := .lst (List.map V.int (List.map (fun k : Nat => (k : Int)) ul))) hp
        have st := same_new (o := .tup (List.map V.int (List.map (fun k : Nat => (k : Int)) ul))) ht
        have sr := same_new (o := .tup [.int (b.label : Int), .ref t]) hr'
        have s45 := (sp.trans st).trans sr
        have kp : ∀ {A : Hp} {o : HO}, KeepD D A (upd A D o) := fun {A o} c q e n => by
          rw [upd_ne n]
          exact e
        have keepRow : ∀ {A B : Hp} {l : List V} {b : Bl} {x : V}, KeepD D A B → A D = some (.lst l) → LiveRow F A b x → LiveRow F B b x := fun {A B l b x} k hR h => by
          obtain ⟨a, t, us, e1, e2, e3, e4⟩ := h
          exact ⟨a, t, us, e1, k _ _ e2 (ne_of e2 hR (by intro z; cases z)), k _ _ e3 (ne_of e3 hR (by intro z; cases z)), e4⟩
        have sameRow : ∀ {A B : Hp} {b : Bl} {x : V}, Same A B → LiveRow F A b x → LiveRow F B b x := fun {A B b x} k h => by
          obtain ⟨a, t, us, e1, e2, e3, e4⟩ := h
          exact ⟨a, t, us, e1, k _ _ e2, k _ _ e3, e4⟩
        refine ⟨zs, s45 _ _ hD4, by rw [lz]; exact big (by omega), zs ++ [.ref r], upd_same, by rw [List.length_append, lz]; rfl, ?_, sput (s4.trans s45) hD⟩
        rw [List.take_add_one, hb]
        refine prd_app (L2.Paired.mapP pz fun _ _ h => keepRow kp (s45 _ _ hD4) (sameRow s45 h)) (.cons (keepRow kp (s45 _ _ hD4) ⟨r, t, ul, rfl, upd_same, sr _ _ ?_, us1, fun z => (us2 z).trans (mem i b hb z)⟩) .nil)
        rw [upd_same, List.map_map]
        rfl
    rintro H4 ⟨zs, hD4, lz, pz, s4⟩
    rw [rl, List.take_length] at pz
    exact q D zs H4 (s03.trans s4) hD4 pz
end
end K0

set_option Elab.async false
set_option linter.all false
set_option maxRecDepth 100000
set_option maxHeartbeats 1000000
namespace K0
open PySem L2
/-- t + (x,): t may be empty -/
theorem cat_any {K : PySem.W.Frag} {H : Hp} {a b : Addr} {xs : List V} {x : V} {Q : VK} (ha : H a = some (.tup xs)) (hb : H b = some (.tup [x])) (hl : xs.length + 1 ≤ sizeLine) (h : ∀ q H', Same H H' → H' q = some (.tup (xs ++ [x])) → Q (.ref q) H') : rCatA K (.ref a) (.ref b) H Q := by
  refine ⟨a, b, xs, [x], rfl, rfl, .inl (.of ha), .inl (.of hb), hl, fun e => ?_, (fun _ e => by simp at e), fun _ _ p hp => h p _ (same_new hp) upd_same⟩
  subst e
  exact h b H (Same.refl _) hb
/-- what stands in a statement or an end behind its name: expressions and numbers -/
def pls : It → List (Option Ex)
  | .inl (.set _ e) => [none, some e]
  | .inl (.write e) => [some e]
  | .inl (.store z e) => [some z, some e]
  | .inr (.go _) => [none]
  | .inr (.iff e _ _) => [some e, none, none]
  | .inr (.ret e) => [some e]
def PlAt (H : Hp) : Option Ex → V → Prop
  | none, v => ∃ i : Int, v = .int i
  | some e, v => ExAt H e v
theorem PlAt.mono {H H' : Hp} (t : Tups H H') {o : Option Ex} {v : V} (h : PlAt H o v) : PlAt H' o v := by
  cases o with
  | none => exact h
  | some e => exact ExAt.mono t h
theorem pls_exps (it : It) : (pls it).filterMap id = exps it := by
  cases it with
  | inl s => cases s <;> rfl
  | inr s => cases s <;> rfl
theorem it_at {H : Hp} {it : It} {v : V} (h : ItAt H it v) : ∃ (c : Addr) (op : Str) (tl : List V), v = .ref c ∧ H c = some (.tup (.str op :: tl)) ∧ Paired (PlAt H) (pls it) tl := by
  cases it with
  | inl s =>
    cases s with
    | set x e =>
      obtain ⟨a, u, rfl, ha, hu⟩ := h
      exact ⟨a, _, _, rfl, ha, .cons ⟨_, rfl⟩ (.cons hu .nil)⟩
    | write e =>
      obtain ⟨a, u, rfl, ha, hu⟩ := h
      exact ⟨a, _, _, rfl, ha, .cons hu .nil⟩
    | store z e =>
      obtain ⟨a, u, y, rfl, ha, hu, hy⟩ := h
      exact ⟨a, _, _, rfl, ha, .cons hu (.cons hy .nil)⟩
  | inr s =>
    cases s with
    | go l =>
      obtain ⟨a, rfl, ha⟩ := h
      exact ⟨a, _, _, rfl, ha, .cons ⟨_, rfl⟩ .nil⟩
    | iff e l m =>
      obtain ⟨a, u, rfl, ha, hu⟩ := h
      exact ⟨a, _, _, rfl, ha, .cons hu (.cons ⟨_, rfl⟩ (.cons ⟨_, rfl⟩ .nil))⟩
    | ret e =>
      obtain ⟨a, u, rfl, ha, hu⟩ := h
      exact ⟨a, _, _, rfl, ha, .cons hu .nil⟩
theorem pls_len (it : It) : (pls it).length ≤ 3 := by
  cases it with
  | inl s => cases s <;> simp [pls]
  | inr s => cases s <;> simp [pls]
theorem mem_pls {it : It} {e : Ex} : some e ∈ pls it ↔ e ∈ exps it := by
  rw [← pls_exps, List.mem_filterMap]
  constructor
  · exact fun h => ⟨some e, h, rfl⟩
  · rintro ⟨o, ho, e1⟩
    have : o = some e := e1
    rw [← this]
    exact ho
/-- a live variable is a name of some block's part -/
theorem used_name {v : Nat} : ∀ {l : List It}, usedB v l = true → ∃ it ∈ l, v ∈ (exps it).flatMap nmE
  | [], h => by cases h
  | it :: r, h => by
    unfold usedB at h
    rcases (Bool.or_eq_true _ _).mp h with h | h
    · exact ⟨it, List.mem_cons_self, of_decide_eq_true h⟩
    · obtain ⟨i2, h1, h2⟩ := used_name (l := r) (Bool.and_eq_true _ _ ▸ h).2
      exact ⟨i2, List.mem_cons_of_mem _ h1, h2⟩
theorem lv_name {F : Fn} {v l : Nat} (L : Lv F v [] l) : ∃ b ∈ F.blocks, ∃ it ∈ itsOf b, v ∈ (exps it).flatMap nmE := by
  induction L with
  | @use l _ h =>
    obtain ⟨it, h1, h2⟩ := used_name h
    refine ⟨blk F l, ?_, it, h1, h2⟩
    cases e : F.blocks.find? (fun b => b.label == l) with
    | some b =>
      have eb : blk F l = b := by
        unfold blk
        rw [e]
        rfl
      rw [eb]
      exact List.mem_of_find?_eq_some e
    | none =>
      have eb : blk F l = noBl := by
        unfold blk
        rw [e]
        rfl
      rw [eb] at h1
      have h1' : it ∈ [Sum.inr (En.ret (.int 0))] := h1
      rw [List.mem_singleton.mp h1'] at h2
      simp [exps, nmE] at h2
  | step _ _ _ _ ih => exact ih
theorem lv_uni {nb mo : Nat} {F : Fn} (ok : FnOk' nb mo F) {v l : Nat} (L : Lv F v [] l) : v ∈ uni := by
  obtain ⟨b, hb, it, hit, hv⟩ := lv_name L
  exact nmE_flat_uni (its_ok (ok.ok b hb) it hit).1 v hv
/-- the turns of the law's own sorting out -/
structure Ded (L : List Nat) (k : Nat) (acc : List Nat) : Prop where
  st : acc.Pairwise (· < ·)
  mem : ∀ x, x ∈ acc ↔ x ∈ L.take k
theorem Ded.nil (L : List Nat) : Ded L 0 [] := ⟨List.Pairwise.nil, fun x => by simp⟩
theorem Ded.add {L : List Nat} {k : Nat} {acc : List Nat} (so : L.Pairwise (· ≤ ·)) (D : Ded L k acc) (hk : k < L.length) (h : k = 0 ∨ ∃ z, L[k - 1]? = some z ∧ z ≠ L[k]) : Ded L (k + 1) (acc ++ [L[k]]) := by
  have lt : ∀ x ∈ L.take k, x < L[k] := fun x hx => by
    obtain ⟨i, hi⟩ := List.mem_iff_getElem?.mp hx
    have il : i < k := by
      have := (List.getElem?_eq_some_iff.mp hi).1
      rw [List.length_take] at this
      omega
    rw [List.getElem?_take_of_lt il] at hi
    rcases h with rfl | ⟨z, hz, ne⟩
    · exact absurd il (Nat.not_lt_zero _)
    · have hiL : i < L.length := by omega
      have hk1 : k - 1 < L.length := by omega
      rw [List.getElem?_eq_getElem hiL] at hi
      rw [List.getElem?_eq_getElem hk1] at hz
      have e1 := Option.some.inj hi
      have e2 := Option.some.inj hz
      have pw := List.pairwise_iff_getElem.mp so
      have q1 : L[k - 1] ≤ L[k] := pw (k - 1) k hk1 hk (by omega)
      have q2 : L[i] ≤ L[k - 1] := by
        by_cases e : i = k - 1
        · subst e
          exact Nat.le_refl _
        · exact pw i (k - 1) hiL hk1 (by omega)
      omega
  refine ⟨List.pairwise_append.mpr ⟨D.st, List.pairwise_singleton _ _, fun x hx y hy => ?_⟩, fun x => ?_⟩
  · rw [List.mem_singleton.mp hy]
    exact lt x ((D.mem x).mp hx)
  · rw [List.mem_append, D.mem x, List.take_add_one, List.getElem?_eq_getElem hk, List.mem_append]
    simp
theorem Ded.skip {L : List Nat} {k : Nat} {acc : List Nat} (D : Ded L k acc) (hk : k < L.length) (h0 : k ≠ 0) (h : L[k - 1]? = some L[k]) : Ded L (k + 1) acc := by
  refine ⟨D.st, fun x => ?_⟩
  rw [D.mem x, List.take_add_one, List.getElem?_eq_getElem hk, List.mem_append]
  constructor
  · exact .inl
  · rintro (h1 | h1)
    · exact h1
    · have e : x = L[k] := by simpa using h1
      rw [e]
      refine List.mem_iff_getElem?.mpr ⟨k - 1, ?_⟩
      rw [List.getElem?_take_of_lt (by omega)]
      exact h
theorem sh_ivt (l : List Nat) : SeqAt.shaped (.tuple (l.map fun n : Nat => PyData.int (n : Int))) = true := by
  have h1 : PyData.canLay0 (.tuple (l.map fun n : Nat => PyData.int (n : Int))) = true := can_iv l
  have h2 := dep_iv l
  have h3 : PyData.depth (.tuple (l.map fun n : Nat => PyData.int (n : Int))) ≤ 64 := by
    show PyData.depthAll (l.map fun n : Nat => PyData.int (n : Int)) + 1 ≤ 64
    omega
  unfold SeqAt.shaped
  rw [h1, decide_eq_true h3]
  rfl
theorem eq_sh {d : PyData} (h : SeqAt.shaped d = true) : PyData.eqv d d = true := SeqAt.eqv_refl d (SeqAt.canLay_of_shaped h)
end K0

set_option Elab.async false
set_option linter.all false
set_option maxRecDepth 100000
set_option maxHeartbeats 1000000
namespace K0
open PySem L2
abbrev NL : List Str := ["script", "draw", "function", "every", "block", "s", "part", "names", "due", "live", "k", "v"]
theorem ex_tup {H : Hp} {e : Ex} {v : V} (h : ExAt H e v) : ∃ c ys, v = .ref c ∧ H c = some (.tup ys) := by
  cases e with
  | int k => exact ⟨_, _, h.choose_spec.1, h.choose_spec.2⟩
  | var k => exact ⟨_, _, h.choose_spec.1, h.choose_spec.2⟩
  | load e => obtain ⟨c, u, h1, h2, _⟩ := h; exact ⟨_, _, h1, h2⟩
  | one op e => obtain ⟨c, u, h1, h2, _⟩ := h; exact ⟨_, _, h1, h2⟩
  | two op e f => obtain ⟨c, u, y, h1, h2, _⟩ := h; exact ⟨_, _, h1, h2⟩
theorem sorted_nats {ks : List Nat} {ys : List Int} (p : ys.Perm (ks.map fun k : Nat => (k : Int))) (s : ys.Pairwise (· ≤ ·)) : ∃ L : List Nat, ys = L.map (fun k : Nat => (k : Int)) ∧ L.Pairwise (· ≤ ·) ∧ L.length = ks.length ∧ ∀ x, x ∈ L ↔ x ∈ ks := by
  have e : ys = (ys.map Int.toNat).map fun k : Nat => (k : Int) := by
    rw [List.map_map]
    conv => lhs; rw [← List.map_id ys]
    refine List.map_congr_left fun y hy => ?_
    obtain ⟨k, _, rfl⟩ := List.mem_map.mp (p.mem_iff.mp hy)
    show (k : Int) = (((k : Int).toNat : Nat) : Int)
    omega
  have pm : (ys.map Int.toNat).Perm ks := by
    have := p.map Int.toNat
    rw [List.map_map] at this
    have e2 : ks.map (Int.toNat ∘ fun k : Nat => (k : Int)) = ks := by
      conv => rhs; rw [← List.map_id ks]
      exact List.map_congr_left fun k _ => by show ((k : Int)).toNat = k; omega
    rw [e2] at this
    exact this
  refine ⟨ys.map Int.toNat, e, ?_, pm.length_eq, fun x => pm.mem_iff⟩
  rw [List.pairwise_map]
  exact s.imp fun h => Int.toNat_le_toNat h
theorem rows_data {K : PySem.W.Frag} {F : Fn} {H H' : Hp} (s : Same H H') : ∀ {bs : List Bl} {xs zs : List V}, Paired (LiveRow F H) bs xs → Paired (LiveRow F H') bs zs → ∃ ds, DpAll K H' xs ds ∧ DpAll K H' zs ds ∧ PyData.canLayAll0 ds = true ∧ PyData.depthAll ds ≤ 3
  | _, _, _, .nil, .nil => ⟨[], .nil, .nil, rfl, by simp [PyData.depthAll]⟩
  | _, _, _, .cons h1 t1, .cons h2 t2 => by
    obtain ⟨ds, d1, d2, d3, d4⟩ := rows_data (K := K) s t1 t2
    obtain ⟨a, t, us, rfl, e2, e3, e4, e5⟩ := h1
    obtain ⟨a', t', us', rfl, f2, f3, f4, f5⟩ := h2
    have eu : us = us' := sorted_unique e4 f4 fun x => (e5 x).trans (f5 x).symm
    subst eu
    refine ⟨.tuple [.int _, .tuple (us.map fun n : Nat => PyData.int (n : Int))] :: ds, .cons (.tup (.inl (.of (s _ _ e2))) (.cons (.int _) (.cons (.tup (.inl (.of (s _ _ e3))) (dp_iv us)) .nil))) d1, .cons (.tup (.inl (.of f2)) (.cons (.int _) (.cons (.tup (.inl (.of f3)) (dp_iv us)) .nil))) d2, ?_, ?_⟩
    · simp [PyData.canLayAll0, PyData.canLay0, can_iv us, d3]
    · have := dep_iv us
      simp [PyData.depthAll, PyData.depth]
      omega
def spLaw (K : PySem.W.Frag) : Sp := fun vs H Q _ => ∃ (a : Addr) (ns : List Int), vs = [.ref a] ∧ SqL K H a (ns.map V.int) ∧ ns.length ≤ 63 ∧ ∀ H', Q (.bl true) H'
section
variable {P : Program} {w : World} {K : PySem.W.Frag} {mg : Str → Option Value} {base : Heap}
theorem scLaw : FnScope NL ["script"] (defScope sLaw) := ⟨rfl, rfl, rfl, by decide +kernel, rfl, by decide +kernel, by decide +kernel⟩
theorem ok_law {f : Addr} {fd : FuncData} (F : Fun K "law" "law" sLaw f fd) (mr : mg "range" = none) (ml : mg "len" = none) (mis : mg "isinstance" = none) (mtu : mg "tuple" = none) (mso : mg "sorted" = none)
    (GD : Got P w K mg base 1 "_law_draw" ["script"] (spDraw K)) (GF : Got P w K mg base 8 "_law_function" ["draw", "blocks", "most"] spF) (GS : Got P w K mg base 1 "successors" ["block"] spSucc) (GE : Got P w K mg base 1 "_law_ends" ["block"] spEnds)
    (GN : GotNm P w K mg base) (GU : Got P w K mg base 5 "uses" ["e"] spUses) (GL : Got P w K mg base 6 "_law_is_live" ["function", "label", "v"] spIsLive) (GV : Got P w K mg base 7 "live_in" ["function"] spLive) : FnOk P w K mg base CX0 9 f fd ["script"] (spLaw K) := by
  obtain ⟨fD, fdD, GD, mD, kD, bD⟩ := GD.ex
  obtain ⟨fF, fdF, GF, mF, kF, bF⟩ := GF.ex
  obtain ⟨fS, fdS, GS, mS, kS, bS⟩ := GS.ex
  obtain ⟨fE, fdE, GE, mE, kE, bE⟩ := GE.ex
  obtain ⟨fN, fdN, GNn, mN, kN, bN⟩ := GN.ex
  have GN := GNn 3
  obtain ⟨fU, fdU, GU, mU, kU, bU⟩ := GU.ex
  obtain ⟨fL, fdL, GL, mL, kL, bL⟩ := GL.ex
  obtain ⟨fV, fdV, GV, mV, kV, bV⟩ := GV.ex
  refine F.ok scLaw (fun vs H Q E h => ?_) (fun cdv A outer s H vs Q E hr h => ?_)
  · obtain ⟨a, ns, rfl, _⟩ := h
    rfl
  · obtain ⟨a, ns, rfl, hS, hlen, q⟩ := h
    have nd := scLaw.nd
    have hr1 : Room 1 _ := hr.mono (by decide)
    have hr8 : Room 8 _ := hr.mono (by decide)
    have hrS : Room 1 _ := hr.mono (by decide)
    have hrE : Room 1 _ := hr.mono (by decide)
    have hrN : Room (1 + 3) _ := hr.mono (by decide)
    have hrU : Room 5 _ := hr.mono (by decide)
    have hrL : Room 6 _ := hr.mono (by decide)
    have hrV : Room 7 _ := hr.mono (by decide)
    refine ⟨_, (pss_cons (ps_set (i := 1) nd rfl (.inl rfl) (pe_call GD hr1 (by rfl) mD kD bD .nil pass0 (pa_cons (pv 0) pa_nil))) (pss_cons (ps_set (i := 2) nd rfl (.inr rfl) (pe_call GF hr8 (by rfl) mF kF bF .nil pass0 (pa_cons (pv 1) (pa_cons pe_int (pa_cons pe_int pa_nil))))) (pss_cons (ps_set (i := 3) nd rfl (.inr rfl) (pe_lst pa_nil)) (pss_cons (ps_for PassesOwn.never rfl (pi_tup (pe_ix (r := rIxT K) ix_tup (pv 2) pe_int (fun _ _ => rfl))) (pg_name (i := 4) nd rfl (.inr rfl)) (pss_cons (ps_if (pt_cmpR (op_neD hr.units) (pe_call GS hrS (by rfl) mS kS bS .nil pass0 (pa_cons (pv 4) pa_nil)) (pe_callTy call_tuple_of (by rfl) mtu (by decide +kernel) (pa_cons (pe_call GE hrE (by rfl) mE kE bE .nil pass0 (pa_cons (pv 4) pa_nil)) pa_nil)) (nomark _)) (pss_one (ps_ret pe_bl)) pss_nil) (pss_one (ps_for PassesOwn.never rfl (pi_tup (pe_op op_catA (pe_ix (r := rIxT K) ix_tup (pv 4) pe_int (fun _ _ => rfl)) (pe_tup (pa_cons (pe_ix (r := rIxT K) ix_tup (pv 4) pe_int (fun _ _ => rfl)) pa_nil)))) (pg_name (i := 5) nd rfl (.inl rfl)) (pss_one (ps_for PassesOwn.never rfl (pi_tup (pe_slice sl_tup (pv 5) (po_some pe_int) po_none)) (pg_name (i := 6) nd rfl (.inl rfl)) (pss_one (ps_if (pt_val (pe_callB call_isi (by rfl) mis (by decide +kernel) (pa_cons (pv 6) (pa_cons (pe_bltn (v := .ty "tuple") (by rfl) mtu (by decide +kernel) rfl) pa_nil)))) (pss_cons (ps_set (i := 7) nd rfl (.inr rfl) (pe_callB cr_sortedI (by rfl) mso (by decide +kernel) (pa_cons (pe_call GN hrN (by rfl) mN kN bN .nil pass0 (pa_cons (pv 6) pa_nil)) pa_nil))) (pss_cons (ps_if (pt_cmpR (op_neD hr.units) (pe_call GU hrU (by rfl) mU kU bU .nil pass0 (pa_cons (pv 6) pa_nil)) (pe_callTy call_tuple_of (by rfl) mtu (by decide +kernel) (pa_cons (pe_lc (own := [("k", 10)]) (g := gName 10) (tt := _) rfl nd (pi_range1 (by rfl) mr (pa_cons (pe_callB call_len_seq (by rfl) ml PySem.boot_len (pa_cons (pv 7) pa_nil)) pa_nil)) (blkOk_by (N := NL) (sc := defScope sLaw) (by decide +kernel)) (fun _ _ _ _ _ => (pg_name (i := 10) nd rfl (.inl rfl))) (fun _ _ _ _ _ => (pts_one (PW.pt (pw_or (pt_cmpR op_eq (pv 10) pe_int (nomark _)) (pw_or1 (pt_cmpR (r := rNe) op_ne (pe_ix (r := rIxL K) ix_list (pv 7) (pv 10) (fun _ _ => rfl)) (pe_ix (r := rIxL K) ix_list (pv 7) (pe_op op_sub (pv 10) pe_int) (fun _ _ => rfl)) (nomark _))))))) (fun _ _ _ _ _ => (pe_ix (r := rIxL K) ix_list (pv 7) (pv 10) (fun _ _ => rfl)))) pa_nil)) (nomark _)) (pss_one (ps_ret pe_bl)) pss_nil) (pss_one (ps_set (i := 3) nd rfl (.inr rfl) (pe_op op_cat (pv 3) (pv 7)))))) pss_nil)))))))) (pss_cons (ps_set (i := 8) nd rfl (.inl rfl) (pe_lst pa_nil)) (pss_cons (ps_for PassesOwn.never rfl (pi_tup (pe_ix (r := rIxT K) ix_tup (pv 2) pe_int (fun _ _ => rfl))) (pg_name (i := 4) nd rfl (.inr rfl)) (pss_cons (ps_setLc (i := 9) (own := [("v", 11)]) (g := gName 11) (tt := _) (by rfl) nd rfl rfl (sw_true rfl rfl rfl (by decide +kernel)) (pi_range1 (by rfl) mr (pa_cons pe_int pa_nil)) (blkOk_by (N := NL) (sc := defScope sLaw) (by decide +kernel)) (fun _ _ _ _ _ => (pg_name (i := 11) nd rfl (.inl rfl))) (fun _ _ _ _ _ => (pts_one (PW.pt (pw_and (pt_cmpR (r := rIn K false) op_in_seq (pv 11) (pv 3) rfl) (pw_and1 (pt_val (pe_call GL hrL (by rfl) mL kL bL .nil pass0 (pa_cons (pv 2) (pa_cons (pe_ix (r := rIxT K) ix_tup (pv 4) pe_int (fun _ _ => rfl)) (pa_cons (pv 11) pa_nil)))))))))) (fun _ _ _ _ _ => (pv 11))) (pss_one (ps_expr (pe_bm PySem.F.plainAttrs_list PySem.F.slot_list_append PySem.F.type_list_append mt_append (pv 8) (pa_cons (pe_tup (pa_cons (pe_ix (r := rIxT K) ix_tup (pv 4) pe_int (fun _ _ => rfl)) (pa_cons (pe_callTy call_tuple_of (by rfl) mtu (by decide +kernel) (pa_cons (pv 9) pa_nil)) pa_nil))) pa_nil)))))) (pss_one (ps_ret (pe_cmpR (op_eqD hr.units) (pe_call GV hrV (by rfl) mV kV bV .nil pass0 (pa_cons (pv 2) pa_nil)) (pv 8) (nomark _)))))))))), ?_⟩
    refine ⟨_, rfl, a, ns, rfl, hS, hlen, fun d c ms H1 D1 s1 nd1 => ?_⟩
    refine ⟨_, rfl, d, c, ms, 6, 4, rfl, D1, by decide, by decide, by decide, fun F fv H2 ok hF D2 kp2 => ?_⟩
    obtain ⟨fa, ba, rows, rfl, hfa, hba, pr⟩ := id hF
    refine ⟨(by show 0 ≤ sizeLine; decide), fun e0 he0 => ?_⟩
    have se := same_new (o := .lst []) he0
    have rl : rows.length = F.blocks.length := pr.length.symm
    have bn := ok.bn
    have w16 := ok.w16
    refine ⟨_, rfl, fa, _, _, _, rfl, rfl, .of (se _ _ hfa), atI_nat (j := 2) rfl, ba, rfl, ⟨_, .of (se _ _ hba)⟩, for_tup (xs := rows) (fun i σ H' => ∃ (eA : Addr) (ev : List Nat) (y4 y5 y6 y7 y8 y9 y10 y11 : Option V), σ = [some (.ref a), some (.ref d), some (.ref fa), some (.ref eA), y4, y5, y6, y7, y8, y9, y10, y11] ∧ Same H2 H' ∧ H' eA = some (.lst (iv ev)) ∧ ev.length ≤ 200000 * i ∧
        ∀ (j : Nat) (b : Bl), j < i → F.blocks[j]? = some b → ∀ it ∈ itsOf b, ∀ x ∈ (exps it).flatMap nmE, x ∈ ev)
      ⟨e0, [], none, none, none, none, none, none, none, none, rfl, se, upd_same, Nat.zero_le _, fun j b h => absurd h (Nat.not_lt_zero _)⟩ ?_ ?_ ?_⟩
    · rintro i σ H' _ ⟨eA, ev, _, _, _, _, _, _, _, _, _, sm, _⟩
      exact .of (sm _ _ hba)
    · rintro i x σ H3 hx ⟨eA, ev, y4, y5, y6, y7, y8, y9, y10, y11, rfl, s3, he3, le3, hev⟩
      obtain ⟨b, hb, at1⟩ := prd_get' pr hx
      have il : i < F.blocks.length := (List.getElem?_eq_some_iff.mp hb).1
      have at3 := at1.mono (Tups.of s3)
      obtain ⟨ai, si, ui, ss, rfl, hai, hsi, pss, hen⟩ := id at3
      have bok := ok.ok b (List.mem_of_getElem? hb)
      have iok := its_ok bok
      refine ⟨_, rfl, _, b, rfl, at3, fun p1 H4 s4 hp1 => ?_⟩
      refine ⟨_, rfl, _, b, rfl, at3.mono (Tups.of s4), fun p2 H5 s5 hp2 => ⟨p2, _, rfl, .inl ⟨.of hp2, fun t ht => ?_⟩⟩⟩
      have s6 := same_new (o := .tup (iv (wys b.fin))) ht
      refine ⟨.tuple ((wys b.fin).map fun n : Nat => PyData.int (n : Int)), .tuple ((wys b.fin).map fun n : Nat => PyData.int (n : Int)), .tup (.inl (.of (s6 _ _ (s5 _ _ hp1)))) (dp_iv _), .tup (.inl (.of upd_same)) (dp_iv _), sh_ivt _, sh_ivt _, _, rfl, iteNb (eq_sh (sh_ivt _)) ?_⟩
      have s36 := (s4.trans s5).trans s6
      generalize upd H5 t (.tup (iv (wys b.fin))) = H6 at s36 ⊢
      refine ⟨_, rfl, ai, _, _, _, rfl, rfl, .of (s36 _ _ hai), atI_nat (j := 1) rfl, _, rfl, ai, _, _, _, rfl, rfl, .of (s36 _ _ hai), atI_nat (j := 2) rfl, (by show 1 ≤ sizeLine; decide), fun tt htt => cat_any (same_new htt _ _ (s36 _ _ hsi)) upd_same ?_ fun q Hq sq hq => ?_⟩
      · have := pss.length
        have := bok.2.1
        exact Nat.le_of_lt (big (by omega))
      have s3q := (s36.trans (same_new htt)).trans sq
      have its := its_at (b := b) (Paired.mapP pss fun _ _ h => SmAt.mono (Tups.of s3q) h) (hen.mono (Tups.of s3q))
      refine ⟨q, rfl, ⟨_, .of hq⟩, for_tup (xs := ss ++ [ui]) (fun n σ H' => ∃ (eA : Addr) (ev : List Nat) (y5 y6 y7 y8 y9 y10 y11 : Option V), σ = [some (.ref a), some (.ref d), some (.ref fa), some (.ref eA), some (.ref ai), y5, y6, y7, y8, y9, y10, y11] ∧ Same Hq H' ∧ H' eA = some (.lst (iv ev)) ∧ ev.length ≤ 200000 * i + 3000 * n ∧
          (∀ (j : Nat) (b : Bl), j < i → F.blocks[j]? = some b → ∀ it ∈ itsOf b, ∀ x ∈ (exps it).flatMap nmE, x ∈ ev) ∧ ∀ it ∈ (itsOf b).take n, ∀ x ∈ (exps it).flatMap nmE, x ∈ ev)
        ⟨eA, ev, y5, y6, y7, y8, y9, y10, y11, rfl, Same.refl _, s3q _ _ he3, le3, hev, fun it h => by simp at h⟩ ?_ ?_ ?_⟩
      · rintro n σ H' _ ⟨eA, ev, _, _, _, _, _, _, _, _, sm, _⟩
        exact .of (sm _ _ hq)
      · rintro n x σ H7 hx7 ⟨eA, ev, y5, y6, y7, y8, y9, y10, y11, rfl, s7, he7, le7, hev7, hit7⟩
        obtain ⟨it, hit, at7⟩ := prd_get' its hx7
        have itok := iok it (List.mem_of_getElem? hit)
        have etk : (itsOf b).take (n + 1) = (itsOf b).take n ++ [it] := by
          rw [List.take_add_one, hit]
          rfl
        have nl : n < 41 := by
          have h1 := (List.getElem?_eq_some_iff.mp hx7).1
          have := pss.length
          have := bok.2.1
          rw [List.length_append] at h1
          have h2 : ss.length + 1 ≤ 41 := by omega
          have h3 : n < ss.length + 1 := h1
          omega
        obtain ⟨cA, op, tl, rfl, hcA, ptl⟩ := it_at (ItAt.mono (Tups.of s7) at7)
        have ltl : tl.length ≤ 3 := by
          rw [← ptl.length]
          exact pls_len it
        refine ⟨_, rfl, _, rfl, cA, _, rfl, .inl (.of hcA), nw1 _ _, fun p hp => ?_⟩
        rw [cut1]
        have sp := same_new (o := .tup tl) hp
        refine ⟨p, rfl, ⟨_, .of upd_same⟩, for_tup (xs := tl) (fun k σ H' => ∃ (eA : Addr) (ev : List Nat) (y6 y7 y8 y9 y10 y11 : Option V), σ = [some (.ref a), some (.ref d), some (.ref fa), some (.ref eA), some (.ref ai), some (.ref cA), y6, y7, y8, y9, y10, y11] ∧ Same (upd H7 p (.tup tl)) H' ∧ H' eA = some (.lst (iv ev)) ∧ ev.length ≤ 200000 * i + 3000 * n + 1000 * k ∧
            (∀ (j : Nat) (b : Bl), j < i → F.blocks[j]? = some b → ∀ it ∈ itsOf b, ∀ x ∈ (exps it).flatMap nmE, x ∈ ev) ∧ (∀ it ∈ (itsOf b).take n, ∀ x ∈ (exps it).flatMap nmE, x ∈ ev) ∧ ∀ e, some e ∈ (pls it).take k → ∀ x ∈ nmE e, x ∈ ev)
          ⟨eA, ev, y6, y7, y8, y9, y10, y11, rfl, Same.refl _, sp _ _ he7, le7, hev7, hit7, fun e h => by simp at h⟩ ?_ ?_ ?_⟩
        · rintro k σ H' _ ⟨_, _, _, _, _, _, _, _, _, sm, _⟩
          exact .of (sm p _ upd_same)
        · rintro k y σ H8 hy ⟨eA, ev, y6, y7, y8, y9, y10, y11, rfl, s8, he8, le8, hev8, hit8, hpl8⟩
          obtain ⟨o, ho, ato⟩ := prd_get' ptl hy
          have ktl : k < tl.length := (List.getElem?_eq_some_iff.mp hy).1
          have ato8 := ato.mono (Tups.of (sp.trans s8))
          have epk : (pls it).take (k + 1) = (pls it).take k ++ [o] := by
            rw [List.take_add_one, ho]
            rfl
          cases o with
          | none =>
            obtain ⟨z, rfl⟩ := ato8
            refine ⟨_, rfl, _, _, _, _, false, rfl, .ty "tuple", .base (.int _), kit_ty (by decide +kernel), _, rfl, iteF ?_⟩
            refine ⟨eA, ev, _, _, _, _, _, _, rfl, s8, he8, by omega, hev8, hit8, fun e h => hpl8 e ?_⟩
            rw [epk] at h
            rcases List.mem_append.mp h with h | h
            · exact h
            · simp at h
          | some e =>
            obtain ⟨c1, ys1, rfl, hc1⟩ := ex_tup ato8
            have oke := itok.1 e (mem_pls.mp (List.mem_of_getElem? ho))
            have sml := nmE_small oke
            refine ⟨_, rfl, _, _, _, _, true, rfl, .ty "tuple", .base (.tup hc1), kit_ty (by decide +kernel), _, rfl, iteT ?_⟩
            refine ⟨_, rfl, _, e, F.width, rfl, ato8, oke.1, Nat.le_trans oke.2 (by decide), sml, fun p2 H9 s9 hp2 _ => ?_⟩
            refine ⟨p2, (nmE e).map fun n : Nat => (n : Int), rfl, .of (by rw [List.map_map]; exact hp2), fun ns' p3 pm so hp3 => ?_⟩
            obtain ⟨L, rfl, soL, lenL, memL⟩ := sorted_nats pm so
            have s10 := same_new (o := .lst ((L.map fun k : Nat => (k : Int)).map V.int)) hp3
            have hL10 : (upd H9 p3 (.lst ((L.map fun k : Nat => (k : Int)).map V.int))) p3 = some (.lst (iv L)) := by
              rw [upd_same, List.map_map]
              rfl
            generalize upd H9 p3 (.lst ((L.map fun k : Nat => (k : Int)).map V.int)) = H10 at s10 hL10 ⊢
            refine ⟨_, rfl, _, e, F.width, rfl, ato8.mono (Tups.of (s9.trans s10)), oke, fun us t Ht hus st ht _ => ?_⟩
            have hLt := st _ _ hL10
            have hl1 : ((iv L).length : Int) = (L.length : Int) := iv_len L
            refine ⟨_, rfl, p3, _, rfl, .inl (.of hLt), _, rfl, by omega, by omega, fun D hD => lc_range (lo := 0) (n := ((iv L).length : Int).toNat) (fun k H' => ∃ acc, H' D = some (.lst (iv acc)) ∧ acc.length ≤ k ∧ Ded L k acc ∧ Same Ht H') ⟨[], upd_same, Nat.le_refl _, Ded.nil L, same_new hD⟩ ?_ ?_⟩
            · rintro k1 H' hk ⟨acc, hacc, lacc, De, sm⟩
              rw [Int.toNat_natCast, List.length_map] at hk
              have hL' := sm _ _ hLt
              have ixk : atI (iv L) (0 + (k1 : Int)) = some (.int (L[k1] : Int)) := by
                rw [Int.zero_add]
                exact atI_nat (iv_get hk)
              have put : ∀ H'', Same H' H'' → Ded L (k1 + 1) (acc ++ [L[k1]]) → ∃ acc1 : List V, H'' D = some (.lst acc1) ∧ acc1.length < sizeLine ∧ ∃ acc2, (upd H'' D (.lst (acc1 ++ [.int (L[k1] : Int)]))) D = some (.lst (iv acc2)) ∧ acc2.length ≤ k1 + 1 ∧ Ded L (k1 + 1) acc2 ∧ Same Ht (upd H'' D (.lst (acc1 ++ [.int (L[k1] : Int)]))) := fun H'' s D2 => by
                refine ⟨iv acc, s _ _ hacc, by rw [List.length_map]; exact big (by omega), acc ++ [L[k1]], ?_, by rw [List.length_append]; show acc.length + 1 ≤ _; omega, D2, sput (sm.trans s) hD⟩
                rw [upd_same]
                unfold iv
                rw [List.map_append]
                rfl
              refine ⟨rfl, ?_⟩
              refine ⟨_, rfl, rfl, _, rfl, ?_⟩
              by_cases h0 : k1 = 0
              · have e0 : decide (V.int (0 + (k1 : Int)) = V.int 0) = true := decide_eq_true (by rw [h0]; rfl)
                rw [e0]
                refine iteT (iteT ?_)
                refine ⟨_, rfl, _, rfl, p3, _, _, _, rfl, rfl, .of hL', ixk, ?_⟩
                exact put H' (Same.refl _) (De.add soL hk (.inl h0))
              · have e0 : decide (V.int (0 + (k1 : Int)) = V.int 0) = false := decide_eq_false fun z => h0 (by have := V.int.inj z; omega)
                rw [e0]
                refine iteF ?_
                have hk1 : k1 - 1 < L.length := by omega
                have ixk2 : atI (iv L) (0 + (k1 : Int) - 1) = some (.int (L[k1 - 1] : Int)) := by
                  rw [show (0 + (k1 : Int) - 1) = ((k1 - 1 : Nat) : Int) by omega]
                  exact atI_nat (iv_get hk1)
                refine ⟨_, rfl, _, rfl, p3, _, _, _, rfl, rfl, .of hL', ixk, _, rfl, _, rfl, _, _, rfl, rfl, p3, _, _, _, rfl, rfl, .of hL', ixk2, rfl, _, rfl, ?_⟩
                by_cases hne : L[k1] = L[k1 - 1]
                · have e1 : decide (V.int (L[k1] : Int) = V.int (L[k1 - 1] : Int)) = true := decide_eq_true (by rw [hne])
                  rw [e1]
                  refine iteF ?_
                  exact ⟨acc, hacc, by omega, De.skip hk h0 (by rw [List.getElem?_eq_getElem hk1, hne]), sm⟩
                · have e1 : decide (V.int (L[k1] : Int) = V.int (L[k1 - 1] : Int)) = false := decide_eq_false fun z => hne (by have := V.int.inj z; omega)
                  rw [e1]
                  refine iteT ?_
                  refine ⟨_, rfl, _, rfl, p3, _, _, _, rfl, rfl, .of hL', ixk, ?_⟩
                  exact put H' (Same.refl _) (De.add soL hk (.inr ⟨_, List.getElem?_eq_getElem hk1, fun z => hne z.symm⟩))
            · rintro H' ⟨acc, hacc, lacc, De, sm⟩
              rw [Int.toNat_natCast, List.length_map] at De
              rw [show Ded L L.length acc = Ded L L.length acc from rfl] at De
              have eus : acc = us := sorted_unique De.st hus.1 fun x => by
                rw [De.mem x, List.take_length, memL x, hus.2 x]
              subst eus
              refine ⟨D, _, rfl, .inl ⟨.of hacc, fun t2 ht2 => ?_⟩⟩
              have s2 := same_new (o := .tup (iv acc)) ht2
              refine ⟨.tuple (acc.map fun n : Nat => PyData.int (n : Int)), .tuple (acc.map fun n : Nat => PyData.int (n : Int)), .tup (.inl (.of (s2 _ _ (sm _ _ ht)))) (dp_iv _), .tup (.inl (.of upd_same)) (dp_iv _), sh_ivt _, sh_ivt _, _, rfl, iteNb (eq_sh (sh_ivt _)) ?_⟩
              have sE := (((s9.trans s10).trans st).trans sm).trans s2
              have hL2 := s2 _ _ (sm _ _ hLt)
              have hev2 := sE _ _ he8
              refine ⟨_, rfl, _, rfl, eA, p3, _, _, rfl, rfl, hev2, hL2, ?_, fun t3 ht3 => ?_⟩
              · rw [List.length_map, List.length_map]
                exact Nat.le_of_lt (by
                  have h1 : ev.length + L.length ≤ 9000000 := by omega
                  exact Nat.lt_of_le_of_lt h1 (by decide))
              · have s3' := same_new (o := .lst (iv ev ++ iv L)) ht3
                refine ⟨t3, ev ++ L, _, _, _, _, _, _, rfl, (s8.trans sE).trans s3', by rw [upd_same]; unfold iv; rw [List.map_append], by rw [List.length_append]; omega, fun j b h1 h2 it h3 x hx => List.mem_append_left _ (hev8 j b h1 h2 it h3 x hx), fun it h3 x hx => List.mem_append_left _ (hit8 it h3 x hx), fun e' h' x hx => ?_⟩
                rw [epk] at h'
                rcases List.mem_append.mp h' with h | h
                · exact List.mem_append_left _ (hpl8 e' h x hx)
                · have ee : e' = e := by simpa using h
                  rw [ee] at hx
                  exact List.mem_append_right _ ((memL x).mpr hx)
        · rintro σ H8 ⟨eA, ev, y6, y7, y8, y9, y10, y11, rfl, s8, he8, le8, hev8, hit8, hpl8⟩
          have el : (pls it).take tl.length = pls it := by
            rw [← ptl.length]
            exact List.take_length
          rw [el] at hpl8
          refine ⟨eA, ev, _, _, _, _, _, _, _, rfl, s7.trans (sp.trans s8), he8, by omega, hev8, fun it' h' z hz => ?_⟩
          rw [etk] at h'
          rcases List.mem_append.mp h' with h | h
          · exact hit8 it' h z hz
          · rw [List.mem_singleton.mp h] at hz
            obtain ⟨e, he, hz⟩ := List.mem_flatMap.mp hz
            exact hpl8 e (mem_pls.mpr he) z hz
      · rintro σ H7 ⟨eA, ev, y5, y6, y7, y8, y9, y10, y11, rfl, s7, he7, le7, hev7, hit7⟩
        have lss : (ss ++ [ui]).length ≤ 41 := by
          have := pss.length
          have := bok.2.1
          rw [List.length_append]
          show ss.length + 1 ≤ 41
          omega
        have el : (itsOf b).take (ss ++ [ui]).length = itsOf b := by
          rw [← its.length]
          exact List.take_length
        rw [el] at hit7
        refine ⟨eA, ev, _, _, _, _, _, _, _, _, rfl, (s3.trans s3q).trans s7, he7, by omega, fun j b' hj hb' => ?_⟩
        by_cases e : j = i
        · subst e
          rw [hb] at hb'
          cases hb'
          exact hit7
        · exact hev7 j b' (by omega) hb'
    · rintro σ H3 ⟨eA, ev, y4, y5, y6, y7, y8, y9, y10, y11, rfl, s3, he3, le3, hev⟩
      rw [rl] at hev le3
      refine ⟨(by show 0 ≤ sizeLine; decide), fun dA hdA => ?_⟩
      have sd := same_new (o := .lst []) hdA
      refine ⟨_, rfl, fa, _, _, _, rfl, rfl, .of (sd _ _ (s3 _ _ hfa)), atI_nat (j := 2) rfl, ba, rfl, ⟨_, .of (sd _ _ (s3 _ _ hba))⟩, for_tup (xs := rows) (fun i σ H' => ∃ (zs : List V) (y4 y5 y6 y7 y9 y10 y11 : Option V), σ = [some (.ref a), some (.ref d), some (.ref fa), some (.ref eA), y4, y5, y6, y7, some (.ref dA), y9, y10, y11] ∧ Same H3 H' ∧ H' dA = some (.lst zs) ∧ zs.length = i ∧ Paired (LiveRow F H') (F.blocks.take i) zs)
        ⟨[], y4, y5, y6, y7, y9, y10, y11, rfl, sd, upd_same, rfl, .nil⟩ ?_ ?_ ?_⟩
      · rintro i σ H' _ ⟨_, _, _, _, _, _, _, _, _, sm, _⟩
        exact .of (sm _ _ (s3 _ _ hba))
      · rintro i x σ H4 hx ⟨zs, y4, y5, y6, y7, y9, y10, y11, rfl, s4, hz4, lz, pz⟩
        obtain ⟨b, hb, at1⟩ := prd_get' pr hx
        have il : i < F.blocks.length := (List.getElem?_eq_some_iff.mp hb).1
        have s24 := s3.trans s4
        obtain ⟨ai, si, ui, ss, rfl, hai, _⟩ := at1.mono (Tups.of s24)
        have he4 := s4 _ _ he3
        have hF4 := hF.mono (Tups.of s24)
        have hlab : b.label ∈ F.blocks.map (·.label) := List.mem_map_of_mem (List.mem_of_getElem? hb)
        refine ⟨100, rfl, by decide, by decide, fun D hD => lc_range (lo := 0) (n := 100) (fun k H' => ∃ acc : List Nat, H' D = some (.lst (iv acc)) ∧ acc.length ≤ k ∧ acc.Pairwise (· < ·) ∧ (∀ x, x ∈ acc ↔ x < k ∧ x ∈ ev ∧ Lv F x [] b.label) ∧ Same H4 H') ⟨[], upd_same, Nat.le_refl _, List.Pairwise.nil, fun x => (by simp), same_new hD⟩ ?_ ?_⟩
        · rintro k H' hk ⟨acc, hacc, lacc, sacc, macc, sm⟩
          refine ⟨rfl, ?_⟩
          have ein : inV (.int (0 + (k : Int))) (iv ev) = decide (k ∈ ev) := by
            rw [Int.zero_add]
            exact in_iv k ev
          have skip : ∀ H'', Same H' H'' → ¬ (k ∈ ev ∧ Lv F k [] b.label) → ∃ acc : List Nat, H'' D = some (.lst (iv acc)) ∧ acc.length ≤ k + 1 ∧ acc.Pairwise (· < ·) ∧ (∀ x, x ∈ acc ↔ x < k + 1 ∧ x ∈ ev ∧ Lv F x [] b.label) ∧ Same H4 H'' := fun H'' s h => by
            refine ⟨acc, s _ _ hacc, by omega, sacc, fun x => ?_, sm.trans s⟩
            rw [macc x]
            constructor
            · rintro ⟨h1, h2, h3⟩
              exact ⟨by omega, h2, h3⟩
            · rintro ⟨h1, h2, h3⟩
              refine ⟨?_, h2, h3⟩
              have : x ≠ k := fun z => h (by rw [← z]; exact ⟨h2, h3⟩)
              omega
          refine ⟨_, rfl, _, rfl, eA, _, rfl, .inl (.of (sm _ _ he4)), rfl, flat_iv _, _, rfl, ?_⟩
          rw [show (if false = true then !inV (V.int (0 + (k : Int))) (iv ev) else inV (V.int (0 + (k : Int))) (iv ev)) = decide (k ∈ ev) from ein]
          by_cases hke : k ∈ ev
          · rw [decide_eq_true hke]
            refine iteT ?_
            refine ⟨_, rfl, _, rfl, ai, _, _, _, rfl, rfl, .of (sm _ _ hai), atI_nat (j := 0) rfl, _, rfl, _, F, 6, 4, b.label, k, (by rw [Int.zero_add]; rfl), hF4.mono (Tups.of sm), ok, by decide, hlab, fun H'' s L => ⟨_, rfl, iteT ?_⟩, fun H'' s nL => ⟨_, rfl, iteF (skip H'' s fun h => nL h.2)⟩⟩
            refine ⟨_, rfl, iv acc, s _ _ hacc, by rw [List.length_map]; exact big (by omega), acc ++ [k], ?_, by rw [List.length_append]; show acc.length + 1 ≤ _; omega, ?_, fun x => ?_, sput (sm.trans s) hD⟩
            · rw [upd_same, Int.zero_add]
              unfold iv
              rw [List.map_append]
              rfl
            · refine List.pairwise_append.mpr ⟨sacc, List.pairwise_singleton _ _, fun x hx y hy => ?_⟩
              rw [List.mem_singleton.mp hy]
              exact ((macc x).mp hx).1
            · rw [List.mem_append, macc x, List.mem_singleton]
              constructor
              · rintro (⟨h1, h2, h3⟩ | rfl)
                · exact ⟨by omega, h2, h3⟩
                · exact ⟨by omega, hke, L⟩
              · rintro ⟨h1, h2, h3⟩
                by_cases e : x = k
                · exact .inr e
                · exact .inl ⟨by omega, h2, h3⟩
          · rw [decide_eq_false hke]
            exact iteF (iteF (skip H' (Same.refl _) fun h => hke h.1))
        rintro H5 ⟨acc, hacc, lacc, sacc, macc, sm⟩
        have row : ∀ z, z ∈ acc ↔ Lv F z [] b.label := fun z => by
          rw [macc z]
          constructor
          · exact fun h => h.2.2
          · intro L
            obtain ⟨b2, hb2, it, hit, hv⟩ := lv_name L
            obtain ⟨j2, hj2⟩ := List.mem_iff_getElem?.mp hb2
            have h100 : ∀ x ∈ uni, x < 100 := by decide
            exact ⟨h100 z (lv_uni ok L), hev j2 b2 (List.getElem?_eq_some_iff.mp hj2).1 hj2 it hit z hv, L⟩
        refine ⟨_, rfl, .inl ⟨rfl, _, .of (sm _ _ hz4)⟩, _, rfl, ai, _, _, _, rfl, rfl, .of (sm _ _ hai), atI_nat (j := 0) rfl, _, rfl, D, _, rfl, .inl ⟨.of hacc, fun t ht => ⟨(by show 2 ≤ sizeLine; decide), fun r hr' => ?_⟩⟩⟩
        have st := same_new (o := .tup (iv acc)) ht
        have sr := same_new (o := .tup [.int (b.label : Int), .ref t]) hr'
        have s45 := (sm.trans st).trans sr
        have hz6 := s45 _ _ hz4
        refine ⟨dA, zs, _, rfl, rfl, hz6, by rw [lz]; exact big (by omega), ?_⟩
        have kp : ∀ {A : Hp} {o : HO}, KeepD dA A (upd A dA o) := fun {A o} c q e n => by
          rw [upd_ne n]
          exact e
        have keepRow : ∀ {A B : Hp} {l : List V} {b : Bl} {x : V}, KeepD dA A B → A dA = some (.lst l) → LiveRow F A b x → LiveRow F B b x := fun {A B l b x} k hR h => by
          obtain ⟨a, t, us, e1, e2, e3, e4⟩ := h
          exact ⟨a, t, us, e1, k _ _ e2 (ne_of e2 hR (by intro z; cases z)), k _ _ e3 (ne_of e3 hR (by intro z; cases z)), e4⟩
        have sameRow : ∀ {A B : Hp} {b : Bl} {x : V}, Same A B → LiveRow F A b x → LiveRow F B b x := fun {A B b x} k h => by
          obtain ⟨a, t, us, e1, e2, e3, e4⟩ := h
          exact ⟨a, t, us, e1, k _ _ e2, k _ _ e3, e4⟩
        refine ⟨zs ++ [.ref r], _, _, _, _, _, _, _, rfl, sput (s4.trans s45) hdA, upd_same, by rw [List.length_append, lz]; rfl, ?_⟩
        rw [List.take_add_one, hb]
        exact prd_app (L2.Paired.mapP pz fun _ _ h => keepRow kp hz6 (sameRow s45 h)) (.cons (keepRow kp hz6 ⟨r, t, acc, rfl, upd_same, sr _ _ upd_same, sacc, row⟩) .nil)
      · rintro σ H4 ⟨zs, y4, y5, y6, y7, y9, y10, y11, rfl, s4, hz4, lz, pz⟩
        rw [rl, List.take_length] at pz
        refine ⟨_, rfl, _, F, 6, 4, rfl, hF.mono (Tups.of (s3.trans s4)), ok, by decide, by decide, fun p xs H5 s5 hp pxs => ?_⟩
        have sameRow : ∀ {A B : Hp} {b : Bl} {x : V}, Same A B → LiveRow F A b x → LiveRow F B b x := fun {A B b x} k h => by
          obtain ⟨a, t, us, e1, e2, e3, e4⟩ := h
          exact ⟨a, t, us, e1, k _ _ e2, k _ _ e3, e4⟩
        obtain ⟨ds, d1, d2, d3, d4⟩ := rows_data (K := K) (Same.refl H5) pxs (L2.Paired.mapP pz fun _ _ h => sameRow s5 h)
        have sh : SeqAt.shaped (.list ds) = true := by
          unfold SeqAt.shaped
          have h1 : PyData.canLay0 (.list ds) = true := d3
          have h2 : PyData.depth (.list ds) ≤ 64 := by
            show PyData.depthAll ds + 1 ≤ 64
            omega
          rw [h1, decide_eq_true h2]
          rfl
        refine ⟨_, rfl, .list ds, .list ds, .lst (.of hp) d1, .lst (.of (s5 _ _ hz4)) d2, sh, sh, ?_⟩
        rw [eq_sh sh]
        exact q H5
end
end K0

set_option Elab.async false
set_option linter.all false
set_option maxRecDepth 100000
set_option maxHeartbeats 2000000
namespace K0
open PySem L2
theorem all_mk {l : PySem.W.OpenLaw} {w : World} {K : PySem.W.Frag} {h : Heap} {mg : Str → Option Value} {fa f1 f2 f3 f4 f5 f6 f7 f8 f9 f10 f11 f12 f13 f14 f15 f16 f17 f18 f19 f20 : Addr} (X : K.In h) (G : h.Ns mainGlobals mg) (hfa : mg "law" = some (.ref fa))
    {od1 an1 od2 an2 od3 an3 od4 an4 od5 an5 od6 an6 od7 an7 od8 an8 od9 an9 od10 an10 od11 an11 od12 an12 od13 an13 od14 an14 od15 an15 od16 an16 od17 an17 od18 an18 od19 an19 od20 an20 : Option Addr} {sl1 sl2 sl3 sl4 sl5 sl6 sl7 sl8 sl9 sl10 sl11 sl12 sl13 sl14 sl15 sl16 sl17 sl18 sl19 sl20 : Array (Option Value)} {oc1 kV1 dc1 pm1 cd1 ct1 oc2 kV2 dc2 pm2 cd2 ct2 oc3 kV3 dc3 pm3 cd3 ct3 oc4 kV4 dc4 pm4 cd4 ct4 oc5 kV5 dc5 pm5 cd5 ct5 oc6 kV6 dc6 pm6 cd6 ct6 oc7 kV7 dc7 pm7 cd7 ct7 oc8 kV8 dc8 pm8 cd8 ct8 oc9 kV9 dc9 pm9 cd9 ct9 oc10 kV10 dc10 pm10 cd10 ct10 oc11 kV11 dc11 pm11 cd11 ct11 oc12 kV12 dc12 pm12 cd12 ct12 oc13 kV13 dc13 pm13 cd13 ct13 oc14 kV14 dc14 pm14 cd14 ct14 oc15 kV15 dc15 pm15 cd15 ct15 oc16 kV16 dc16 pm16 cd16 ct16 oc17 kV17 dc17 pm17 cd17 ct17 oc18 kV18 dc18 pm18 cd18 ct18 oc19 kV19 dc19 pm19 cd19 ct19 oc20 kV20 dc20 pm20 cd20 ct20 : Value}
    (a1 : PySem.W.nsIn K mainGlobals "live_names" = some (some (.ref f1))) (l1 : K.lookup f1 = some ⟨oc1, od1, .func (PySem.W.fnOf "live_names" "live_names" (defArgs sNms) (defBody sNms) (defScope sNms) .none kV1 dc1 pm1 an1 cd1 ct1), sl1⟩) (c1 : PySem.W.codeIn K cd1 "live_names" = true) (k1 : PySem.W.keepIn K (.ref f1) = true)
    (a2 : PySem.W.nsIn K mainGlobals "successors" = some (some (.ref f2))) (l2 : K.lookup f2 = some ⟨oc2, od2, .func (PySem.W.fnOf "successors" "successors" (defArgs sSucc) (defBody sSucc) (defScope sSucc) .none kV2 dc2 pm2 an2 cd2 ct2), sl2⟩) (c2 : PySem.W.codeIn K cd2 "successors" = true) (k2 : PySem.W.keepIn K (.ref f2) = true)
    (a3 : PySem.W.nsIn K mainGlobals "_mark_uses" = some (some (.ref f3))) (l3 : K.lookup f3 = some ⟨oc3, od3, .func (PySem.W.fnOf "_mark_uses" "_mark_uses" (defArgs sMark) (defBody sMark) (defScope sMark) .none kV3 dc3 pm3 an3 cd3 ct3), sl3⟩) (c3 : PySem.W.codeIn K cd3 "_mark_uses" = true) (k3 : PySem.W.keepIn K (.ref f3) = true)
    (a4 : PySem.W.nsIn K mainGlobals "uses" = some (some (.ref f4))) (l4 : K.lookup f4 = some ⟨oc4, od4, .func (PySem.W.fnOf "uses" "uses" (defArgs sUses) (defBody sUses) (defScope sUses) .none kV4 dc4 pm4 an4 cd4 ct4), sl4⟩) (c4 : PySem.W.codeIn K cd4 "uses" = true) (k4 : PySem.W.keepIn K (.ref f4) = true)
    (a5 : PySem.W.nsIn K mainGlobals "_item_expressions" = some (some (.ref f5))) (l5 : K.lookup f5 = some ⟨oc5, od5, .func (PySem.W.fnOf "_item_expressions" "_item_expressions" (defArgs sItems) (defBody sItems) (defScope sItems) .none kV5 dc5 pm5 an5 cd5 ct5), sl5⟩) (c5 : PySem.W.codeIn K cd5 "_item_expressions" = true) (k5 : PySem.W.keepIn K (.ref f5) = true)
    (a6 : PySem.W.nsIn K mainGlobals "_uses_and_sets" = some (some (.ref f6))) (l6 : K.lookup f6 = some ⟨oc6, od6, .func (PySem.W.fnOf "_uses_and_sets" "_uses_and_sets" (defArgs sUS) (defBody sUS) (defScope sUS) .none kV6 dc6 pm6 an6 cd6 ct6), sl6⟩) (c6 : PySem.W.codeIn K cd6 "_uses_and_sets" = true) (k6 : PySem.W.keepIn K (.ref f6) = true)
    (a7 : PySem.W.nsIn K mainGlobals "live_in" = some (some (.ref f7))) (l7 : K.lookup f7 = some ⟨oc7, od7, .func (PySem.W.fnOf "live_in" "live_in" (defArgs sLive) (defBody sLive) (defScope sLive) .none kV7 dc7 pm7 an7 cd7 ct7), sl7⟩) (c7 : PySem.W.codeIn K cd7 "live_in" = true) (k7 : PySem.W.keepIn K (.ref f7) = true)
    (a8 : PySem.W.nsIn K mainGlobals "_law_draw" = some (some (.ref f8))) (l8 : K.lookup f8 = some ⟨oc8, od8, .func (PySem.W.fnOf "_law_draw" "_law_draw" (defArgs sDraw) (defBody sDraw) (defScope sDraw) .none kV8 dc8 pm8 an8 cd8 ct8), sl8⟩) (c8 : PySem.W.codeIn K cd8 "_law_draw" = true) (k8 : PySem.W.keepIn K (.ref f8) = true)
    (a9 : PySem.W.nsIn K mainGlobals "_law_take" = some (some (.ref f9))) (l9 : K.lookup f9 = some ⟨oc9, od9, .func (PySem.W.fnOf "_law_take" "_law_take" (defArgs sTake) (defBody sTake) (defScope sTake) .none kV9 dc9 pm9 an9 cd9 ct9), sl9⟩) (c9 : PySem.W.codeIn K cd9 "_law_take" = true) (k9 : PySem.W.keepIn K (.ref f9) = true)
    (a10 : PySem.W.nsIn K mainGlobals "_law_top" = some (some (.ref f10))) (l10 : K.lookup f10 = some ⟨oc10, od10, .func (PySem.W.fnOf "_law_top" "_law_top" (defArgs sLTop) (defBody sLTop) (defScope sLTop) .none kV10 dc10 pm10 an10 cd10 ct10), sl10⟩) (c10 : PySem.W.codeIn K cd10 "_law_top" = true) (k10 : PySem.W.keepIn K (.ref f10) = true)
    (a11 : PySem.W.nsIn K mainGlobals "_law_pairs" = some (some (.ref f11))) (l11 : K.lookup f11 = some ⟨oc11, od11, .func (PySem.W.fnOf "_law_pairs" "_law_pairs" (defArgs sPairs) (defBody sPairs) (defScope sPairs) .none kV11 dc11 pm11 an11 cd11 ct11), sl11⟩) (c11 : PySem.W.codeIn K cd11 "_law_pairs" = true) (k11 : PySem.W.keepIn K (.ref f11) = true)
    (a12 : PySem.W.nsIn K mainGlobals "_law_word" = some (some (.ref f12))) (l12 : K.lookup f12 = some ⟨oc12, od12, .func (PySem.W.fnOf "_law_word" "_law_word" (defArgs sWord) (defBody sWord) (defScope sWord) .none kV12 dc12 pm12 an12 cd12 ct12), sl12⟩) (c12 : PySem.W.codeIn K cd12 "_law_word" = true) (k12 : PySem.W.keepIn K (.ref f12) = true)
    (a13 : PySem.W.nsIn K mainGlobals "_law_expression" = some (some (.ref f13))) (l13 : K.lookup f13 = some ⟨oc13, od13, .func (PySem.W.fnOf "_law_expression" "_law_expression" (defArgs sExpr) (defBody sExpr) (defScope sExpr) .none kV13 dc13 pm13 an13 cd13 ct13), sl13⟩) (c13 : PySem.W.codeIn K cd13 "_law_expression" = true) (k13 : PySem.W.keepIn K (.ref f13) = true)
    (a14 : PySem.W.nsIn K mainGlobals "_law_statement" = some (some (.ref f14))) (l14 : K.lookup f14 = some ⟨oc14, od14, .func (PySem.W.fnOf "_law_statement" "_law_statement" (defArgs sStmt) (defBody sStmt) (defScope sStmt) .none kV14 dc14 pm14 an14 cd14 ct14), sl14⟩) (c14 : PySem.W.codeIn K cd14 "_law_statement" = true) (k14 : PySem.W.keepIn K (.ref f14) = true)
    (a15 : PySem.W.nsIn K mainGlobals "_law_function" = some (some (.ref f15))) (l15 : K.lookup f15 = some ⟨oc15, od15, .func (PySem.W.fnOf "_law_function" "_law_function" (defArgs sFun) (defBody sFun) (defScope sFun) .none kV15 dc15 pm15 an15 cd15 ct15), sl15⟩) (c15 : PySem.W.codeIn K cd15 "_law_function" = true) (k15 : PySem.W.keepIn K (.ref f15) = true)
    (a16 : PySem.W.nsIn K mainGlobals "_law_names" = some (some (.ref f16))) (l16 : K.lookup f16 = some ⟨oc16, od16, .func (PySem.W.fnOf "_law_names" "_law_names" (defArgs sNames) (defBody sNames) (defScope sNames) .none kV16 dc16 pm16 an16 cd16 ct16), sl16⟩) (c16 : PySem.W.codeIn K cd16 "_law_names" = true) (k16 : PySem.W.keepIn K (.ref f16) = true)
    (a17 : PySem.W.nsIn K mainGlobals "_law_ends" = some (some (.ref f17))) (l17 : K.lookup f17 = some ⟨oc17, od17, .func (PySem.W.fnOf "_law_ends" "_law_ends" (defArgs sEnds) (defBody sEnds) (defScope sEnds) .none kV17 dc17 pm17 an17 cd17 ct17), sl17⟩) (c17 : PySem.W.codeIn K cd17 "_law_ends" = true) (k17 : PySem.W.keepIn K (.ref f17) = true)
    (a18 : PySem.W.nsIn K mainGlobals "_law_first" = some (some (.ref f18))) (l18 : K.lookup f18 = some ⟨oc18, od18, .func (PySem.W.fnOf "_law_first" "_law_first" (defArgs sFirst) (defBody sFirst) (defScope sFirst) .none kV18 dc18 pm18 an18 cd18 ct18), sl18⟩) (c18 : PySem.W.codeIn K cd18 "_law_first" = true) (k18 : PySem.W.keepIn K (.ref f18) = true)
    (a19 : PySem.W.nsIn K mainGlobals "_law_is_live" = some (some (.ref f19))) (l19 : K.lookup f19 = some ⟨oc19, od19, .func (PySem.W.fnOf "_law_is_live" "_law_is_live" (defArgs sIsLive) (defBody sIsLive) (defScope sIsLive) .none kV19 dc19 pm19 an19 cd19 ct19), sl19⟩) (c19 : PySem.W.codeIn K cd19 "_law_is_live" = true) (k19 : PySem.W.keepIn K (.ref f19) = true)
    (a20 : PySem.W.nsIn K mainGlobals "law" = some (some (.ref f20))) (l20 : K.lookup f20 = some ⟨oc20, od20, .func (PySem.W.fnOf "law" "law" (defArgs sLaw) (defBody sLaw) (defScope sLaw) .none kV20 dc20 pm20 an20 cd20 ct20), sl20⟩) (c20 : PySem.W.codeIn K cd20 "law" = true) (k20 : PySem.W.keepIn K (.ref f20) = true)
    (z_len : PySem.W.nsIn K mainGlobals "len" = some none)
    (z_int : PySem.W.nsIn K mainGlobals "int" = some none)
    (z_abs : PySem.W.nsIn K mainGlobals "abs" = some none)
    (z_range : PySem.W.nsIn K mainGlobals "range" = some none)
    (z_min : PySem.W.nsIn K mainGlobals "min" = some none)
    (z_tuple : PySem.W.nsIn K mainGlobals "tuple" = some none)
    (z_sorted : PySem.W.nsIn K mainGlobals "sorted" = some none)
    (z_isinstance : PySem.W.nsIn K mainGlobals "isinstance" = some none)
    (z_dict : PySem.W.nsIn K mainGlobals "dict" = some none)
    (z_reversed : PySem.W.nsIn K mainGlobals "reversed" = some none) :
    ∃ fd : FuncData, (∀ (s : Shared) (v : Value), BindsTo s fd ⟨[v], []⟩ [("script", v)]) ∧ ∀ base : Heap, K.In base → base.Ns mainGlobals mg → FnOk l.prog w K mg base CX0 9 fa fd ["script"] (spLaw K) := by
  have e := hfa.symm.trans (PySem.W.mg_of X G a20)
  cases e
  have F1 := fun_mk (st := sNms) l1 c1 k1
  have b1 := F1.binds (ps := ["rows"]) fun _ _ _ _ _ _ us hl => match us, hl with | [_], _ => rfl
  have m1 := PySem.W.mg_of X G a1
  have F2 := fun_mk (st := sSucc) l2 c2 k2
  have b2 := F2.binds (ps := ["block"]) fun _ _ _ _ _ _ us hl => match us, hl with | [_], _ => rfl
  have m2 := PySem.W.mg_of X G a2
  have F3 := fun_mk (st := sMark) l3 c3 k3
  have b3 := F3.binds (ps := ["e", "found"]) fun _ _ _ _ _ _ us hl => match us, hl with | [_, _], _ => rfl
  have m3 := PySem.W.mg_of X G a3
  have F4 := fun_mk (st := sUses) l4 c4 k4
  have b4 := F4.binds (ps := ["e"]) fun _ _ _ _ _ _ us hl => match us, hl with | [_], _ => rfl
  have m4 := PySem.W.mg_of X G a4
  have F5 := fun_mk (st := sItems) l5 c5 k5
  have b5 := F5.binds (ps := ["item"]) fun _ _ _ _ _ _ us hl => match us, hl with | [_], _ => rfl
  have m5 := PySem.W.mg_of X G a5
  have F6 := fun_mk (st := sUS) l6 c6 k6
  have b6 := F6.binds (ps := ["block"]) fun _ _ _ _ _ _ us hl => match us, hl with | [_], _ => rfl
  have m6 := PySem.W.mg_of X G a6
  have F7 := fun_mk (st := sLive) l7 c7 k7
  have b7 := F7.binds (ps := ["function"]) fun _ _ _ _ _ _ us hl => match us, hl with | [_], _ => rfl
  have m7 := PySem.W.mg_of X G a7
  have F8 := fun_mk (st := sDraw) l8 c8 k8
  have b8 := F8.binds (ps := ["script"]) fun _ _ _ _ _ _ us hl => match us, hl with | [_], _ => rfl
  have m8 := PySem.W.mg_of X G a8
  have F9 := fun_mk (st := sTake) l9 c9 k9
  have b9 := F9.binds (ps := ["draw", "many"]) fun _ _ _ _ _ _ us hl => match us, hl with | [_, _], _ => rfl
  have m9 := PySem.W.mg_of X G a9
  have F10 := fun_mk (st := sLTop) l10 c10 k10
  have b10 := F10.binds (ps := ["w"]) fun _ _ _ _ _ _ us hl => match us, hl with | [_], _ => rfl
  have m10 := PySem.W.mg_of X G a10
  have F11 := fun_mk (st := sPairs) l11 c11 k11
  have b11 := F11.binds (ps := []) fun _ _ _ _ _ _ us hl => match us, hl with | [], _ => rfl
  have m11 := PySem.W.mg_of X G a11
  have F12 := fun_mk (st := sWord) l12 c12 k12
  have b12 := F12.binds (ps := ["draw", "w"]) fun _ _ _ _ _ _ us hl => match us, hl with | [_, _], _ => rfl
  have m12 := PySem.W.mg_of X G a12
  have F13 := fun_mk (st := sExpr) l13 c13 k13
  have b13 := F13.binds (ps := ["p", "depth"]) fun _ _ _ _ _ _ us hl => match us, hl with | [_, _], _ => rfl
  have m13 := PySem.W.mg_of X G a13
  have F14 := fun_mk (st := sStmt) l14 c14 k14
  have b14 := F14.binds (ps := ["p"]) fun _ _ _ _ _ _ us hl => match us, hl with | [_], _ => rfl
  have m14 := PySem.W.mg_of X G a14
  have F15 := fun_mk (st := sFun) l15 c15 k15
  have b15 := F15.binds (ps := ["draw", "blocks", "most"]) fun _ _ _ _ _ _ us hl => match us, hl with | [_, _, _], _ => rfl
  have m15 := PySem.W.mg_of X G a15
  have F16 := fun_mk (st := sNames) l16 c16 k16
  have b16 := F16.binds (ps := ["e"]) fun _ _ _ _ _ _ us hl => match us, hl with | [_], _ => rfl
  have m16 := PySem.W.mg_of X G a16
  have F17 := fun_mk (st := sEnds) l17 c17 k17
  have b17 := F17.binds (ps := ["block"]) fun _ _ _ _ _ _ us hl => match us, hl with | [_], _ => rfl
  have m17 := PySem.W.mg_of X G a17
  have F18 := fun_mk (st := sFirst) l18 c18 k18
  have b18 := F18.binds (ps := ["block", "v"]) fun _ _ _ _ _ _ us hl => match us, hl with | [_, _], _ => rfl
  have m18 := PySem.W.mg_of X G a18
  have F19 := fun_mk (st := sIsLive) l19 c19 k19
  have b19 := F19.binds (ps := ["function", "label", "v"]) fun _ _ _ _ _ _ us hl => match us, hl with | [_, _, _], _ => rfl
  have m19 := PySem.W.mg_of X G a19
  have F20 := fun_mk (st := sLaw) l20 c20 k20
  have m20 := PySem.W.mg_of X G a20
  have n_len := PySem.W.mg_none_of X G z_len
  have n_int := PySem.W.mg_none_of X G z_int
  have n_abs := PySem.W.mg_none_of X G z_abs
  have n_range := PySem.W.mg_none_of X G z_range
  have n_min := PySem.W.mg_none_of X G z_min
  have n_tuple := PySem.W.mg_none_of X G z_tuple
  have n_sorted := PySem.W.mg_none_of X G z_sorted
  have n_isinstance := PySem.W.mg_none_of X G z_isinstance
  have n_dict := PySem.W.mg_none_of X G z_dict
  have n_reversed := PySem.W.mg_none_of X G z_reversed
  refine ⟨PySem.W.fnOf "law" "law" (defArgs sLaw) (defBody sLaw) (defScope sLaw) .none kV20 dc20 pm20 an20 cd20 ct20, fun s v => .of_eq rfl, fun base _ _ => ?_⟩
  have gTake : Got l.prog w K mg base 1 "_law_take" ["draw", "many"] spTake := ⟨⟨f9, _, ok_take F9 n_len n_int, m9, k9, b9⟩⟩
  have gTop : Got l.prog w K mg base 1 "_law_top" ["w"] spTop := ⟨⟨f10, _, ok_ltop F10, m10, k10, b10⟩⟩
  have gWord : Got l.prog w K mg base 2 "_law_word" ["draw", "w"] spWord := ⟨⟨f12, _, ok_word F12 n_int n_min gTake gTop, m12, k12, b12⟩⟩
  have gPairs : Got l.prog w K mg base 1 "_law_pairs" [] spPairs := ⟨⟨f11, _, ok_pairs F11, m11, k11, b11⟩⟩
  have gDraw : Got l.prog w K mg base 1 "_law_draw" ["script"] (spDraw K) := ⟨⟨f8, _, ok_draw F8 n_int n_abs, m8, k8, b8⟩⟩
  have gE : GotE l.prog w K mg base := ⟨⟨f13, _, ok_expr F13 m13 k13 b13 n_len gTake gWord gPairs, m13, k13, b13⟩⟩
  have gS : Got l.prog w K mg base 7 "_law_statement" ["p"] spS := ⟨⟨f14, _, ok_stmt F14 n_len gTake gE, m14, k14, b14⟩⟩
  have gF : Got l.prog w K mg base 8 "_law_function" ["draw", "blocks", "most"] spF := ⟨⟨f15, _, ok_fun F15 n_len n_range n_tuple gTake gE gS, m15, k15, b15⟩⟩
  have gSu : Got l.prog w K mg base 1 "successors" ["block"] spSucc := ⟨⟨f2, _, ok_succ F2, m2, k2, b2⟩⟩
  have gEn : Got l.prog w K mg base 1 "_law_ends" ["block"] spEnds := ⟨⟨f17, _, ok_ends F17 n_len, m17, k17, b17⟩⟩
  have gU : Got l.prog w K mg base 5 "uses" ["e"] spUses := ⟨⟨f4, _, ok_uses F4 n_sorted n_tuple ⟨f3, _, ok_mark F3 m3 k3 b3, m3, k3, b3⟩, m4, k4, b4⟩⟩
  have gI : Got l.prog w K mg base 1 "_item_expressions" ["item"] spItems := ⟨⟨f5, _, ok_items F5, m5, k5, b5⟩⟩
  have gUS : Got l.prog w K mg base 6 "_uses_and_sets" ["block"] spUS := ⟨⟨f6, _, ok_us F6 gI gU, m6, k6, b6⟩⟩
  have gNq : Got l.prog w K mg base 1 "live_names" ["rows"] spNms := ⟨⟨f1, _, ok_names' F1 n_dict n_reversed, m1, k1, b1⟩⟩
  have gL : Got l.prog w K mg base 7 "live_in" ["function"] spLive := ⟨⟨f7, _, ok_live F7 n_tuple n_sorted gNq gSu gUS, m7, k7, b7⟩⟩
  have gN : GotNm l.prog w K mg base := ⟨⟨f16, _, ok_names F16 m16 k16 b16 n_isinstance n_tuple, m16, k16, b16⟩⟩
  have gFi : Got l.prog w K mg base 5 "_law_first" ["block", "v"] spFirst := ⟨⟨f18, _, ok_first F18 gN, m18, k18, b18⟩⟩
  have gIL : Got l.prog w K mg base 6 "_law_is_live" ["function", "label", "v"] spIsLive := ⟨⟨f19, _, ok_islive F19 gFi gEn, m19, k19, b19⟩⟩
  exact ok_law F20 n_range n_len n_isinstance n_tuple n_sorted gDraw gF gSu gEn gN gU gIL gL
end K0

set_option Elab.async false
set_option linter.all false

open PySem PySem.W PyProof.Rows in
set_option maxRecDepth 100000 in
set_option maxHeartbeats 0 in
theorem PySem.Challenge.cw_leasttiles_k04_uses_and_ways_holds : PySem.Challenge.rw_leasttiles_k04_uses_and_ways.Holds := by
  w_on; o_law; k_head; (case hw => w_witness2)
  k_fill
  refine L2.walk_of (l := PySem.Challenge.rw_leasttiles_k04_uses_and_ways) (n := 63) (k := 9) (x := "script") (CX := fun _ => L2.CX0) (sp := fun w => K0.spLaw _) rfl (by decide) rfl ⟨rfl, by decide, by decide⟩ (fun w h Y => PySem.W.kIn_of Y) ?F (fun _ _ a ns hl _ hS => ⟨a, ns, rfl, hS, hl, fun _ => rfl⟩) (fun _ _ _ _ _ h => h)
  case F =>
    intro w mg fa h KX G hmg
    refine' K0.all_mk KX G hmg ?a1 ?l1 ?c1 ?k1 ?a2 ?l2 ?c2 ?k2 ?a3 ?l3 ?c3 ?k3 ?a4 ?l4 ?c4 ?k4 ?a5 ?l5 ?c5 ?k5 ?a6 ?l6 ?c6 ?k6 ?a7 ?l7 ?c7 ?k7 ?a8 ?l8 ?c8 ?k8 ?a9 ?l9 ?c9 ?k9 ?a10 ?l10 ?c10 ?k10 ?a11 ?l11 ?c11 ?k11 ?a12 ?l12 ?c12 ?k12 ?a13 ?l13 ?c13 ?k13 ?a14 ?l14 ?c14 ?k14 ?a15 ?l15 ?c15 ?k15 ?a16 ?l16 ?c16 ?k16 ?a17 ?l17 ?c17 ?k17 ?a18 ?l18 ?c18 ?k18 ?a19 ?l19 ?c19 ?k19 ?a20 ?l20 ?c20 ?k20 ?z_len ?z_int ?z_abs ?z_range ?z_min ?z_tuple ?z_sorted ?z_isinstance ?z_dict ?z_reversed
    (case a1 => k_is)
    (case l1 => k_is)
    (case c1 => k_is)
    (case k1 => k_is)
    (case a2 => k_is)
    (case l2 => k_is)
    (case c2 => k_is)
    (case k2 => k_is)
    (case a3 => k_is)
    (case l3 => k_is)
    (case c3 => k_is)
    (case k3 => k_is)
    (case a4 => k_is)
    (case l4 => k_is)
    (case c4 => k_is)
    (case k4 => k_is)
    (case a5 => k_is)
    (case l5 => k_is)
    (case c5 => k_is)
    (case k5 => k_is)
    (case a6 => k_is)
    (case l6 => k_is)
    (case c6 => k_is)
    (case k6 => k_is)
    (case a7 => k_is)
    (case l7 => k_is)
    (case c7 => k_is)
    (case k7 => k_is)
    (case a8 => k_is)
    (case l8 => k_is)
    (case c8 => k_is)
    (case k8 => k_is)
    (case a9 => k_is)
    (case l9 => k_is)
    (case c9 => k_is)
    (case k9 => k_is)
    (case a10 => k_is)
    (case l10 => k_is)
    (case c10 => k_is)
    (case k10 => k_is)
    (case a11 => k_is)
    (case l11 => k_is)
    (case c11 => k_is)
    (case k11 => k_is)
    (case a12 => k_is)
    (case l12 => k_is)
    (case c12 => k_is)
    (case k12 => k_is)
    (case a13 => k_is)
    (case l13 => k_is)
    (case c13 => k_is)
    (case k13 => k_is)
    (case a14 => k_is)
    (case l14 => k_is)
    (case c14 => k_is)
    (case k14 => k_is)
    (case a15 => k_is)
    (case l15 => k_is)
    (case c15 => k_is)
    (case k15 => k_is)
    (case a16 => k_is)
    (case l16 => k_is)
    (case c16 => k_is)
    (case k16 => k_is)
    (case a17 => k_is)
    (case l17 => k_is)
    (case c17 => k_is)
    (case k17 => k_is)
    (case a18 => k_is)
    (case l18 => k_is)
    (case c18 => k_is)
    (case k18 => k_is)
    (case a19 => k_is)
    (case l19 => k_is)
    (case c19 => k_is)
    (case k19 => k_is)
    (case a20 => k_is)
    (case l20 => k_is)
    (case c20 => k_is)
    (case k20 => k_is)
    (case z_len => k_is)
    (case z_int => k_is)
    (case z_abs => k_is)
    (case z_range => k_is)
    (case z_min => k_is)
    (case z_tuple => k_is)
    (case z_sorted => k_is)
    (case z_isinstance => k_is)
    (case z_dict => k_is)
    (case z_reversed => k_is)
