import PyProof.Rows.All
import Wide.All
import OpenK.AllK
import Wide.FinOn
import HandS.ForMost
import HandS.Wide
import HandS.IsInst
import HandS.Codes
import HandS.SortInts
import HandS.Defaults
import HandS.Style
import PySem.Challenge.RW_drawnlayers_k36_kept_and_cost
set_option Elab.async false
set_option linter.all false
set_option maxRecDepth 100000
set_option maxHeartbeats 4000000
--! ROW drawnlayers_k36_kept_and_cost
--! NS K36
--! _law_any_system cut1 yes
--! _law_any_system cut3 yes
--! * iter:system[1] tup
--! * iter:system[2] tup
--! _law_tall cut5 yes
--! _law_tall cut6 yes
--! NS K36
namespace D0
open PySem PySem.Spec PyProof.Rows L2
/-! ### operators by the shape of the values -/
def rAddD (K : PySem.W.Frag) : R2 := fun x y H Q => rI0 (fun i j => .int (i + j)) x y H Q ∨ (∃ i j, x = .str i ∧ y = .str j ∧ i.length + j.length ≤ sizeLine ∧ Q (.str (i ++ j)) H) ∨ rCat x y H Q ∨ rCatT K x y H Q
def rMulD : R2 := fun x y H Q => rI CMul (fun i j => .int (i * j)) x y H Q ∨ rRep x y H Q
def rLtD : R2 := rI0 fun i j => .bl (decide (i < j))
def rLeD : R2 := rI0 fun i j => .bl (decide (i ≤ j))
def rGtD : R2 := rI0 fun i j => .bl (decide (j < i))
def rGeD : R2 := rI0 fun i j => .bl (decide (j ≤ i))
def rSubD : R2 := rI0 fun i j => .int (i - j)
def rModD : R2 := rI (fun _ j => j ≠ 0) fun i j => .int (i.fmod j)
def rDivD : R2 := rI CDivW fun i j => .int (i / j)
def rPowD : R2 := rI CPow fun i j => .int (i ^ j.toNat)
def rStrIn (neg : Bool) : R2 := fun x y H Q => ∃ (c : Nat) (z : Str), x = .str ⟨#[c]⟩ ∧ y = .str z ∧ Q (.bl (if neg then !decide (c ∈ z.cps.toList) else decide (c ∈ z.cps.toList))) H
def rInD (K : PySem.W.Frag) (neg : Bool) : R2 := fun x y H Q => rIn K neg x y H Q ∨ rStrIn neg x y H Q
def rIxD (K : PySem.W.Frag) : R2 := fun x y H Q => rIxL K x y H Q ∨ rIxT K x y H Q ∨ rIxS x y H Q
def rIntD : List V → Hp → VK → Prop := fun xs H Q => (∃ i, xs = [.int i] ∧ Q (.int i) H) ∨ ∃ k, xs = [.bl k] ∧ Q (.int (if k then 1 else 0)) H
def rLenD (K : PySem.W.Frag) : List V → Hp → VK → Prop := fun xs H Q => ∃ x n, xs = [x] ∧ LenV K x H n ∧ Q (.int n) H
def rAbsD : List V → Hp → VK → Prop := fun xs H Q => ∃ i, xs = [.int i] ∧ Q (.int (if i < 0 then -i else i)) H
def rMax2D : List V → Hp → VK → Prop := fun xs H Q => ∃ i j, xs = [.int i, .int j] ∧ Q (.int (if j > i then j else i)) H
def rMin2D : List V → Hp → VK → Prop := fun xs H Q => ∃ i j, xs = [.int i, .int j] ∧ Q (.int (if j < i then j else i)) H
def rOrdD : List V → Hp → VK → Prop := fun xs H Q => ∃ x, xs = [.str x] ∧ x.length = 1 ∧ Q (.int (x.cps.getD 0 0 : Nat)) H
section
variable {X : Cx} (K : PySem.W.Frag)
theorem dAdd (hK : X.K = K := by rfl) : OpR X (binaryOp .Add) (rAddD K) := by subst hK; exact op_add.or (op_add_str.or (op_cat.or op_catT))
theorem dSub : OpR X (binaryOp .Sub) rSubD := op_sub
theorem dMul : OpR X (binaryOp .Mult) rMulD := op_mul.or op_rep
theorem dMod : OpR X (binaryOp .Mod) rModD := op_modN
theorem dDiv : OpR X (binaryOp .FloorDiv) rDivD := op_fdivW
theorem dPow : OpR X (binaryOp .Pow) rPowD := op_pow
theorem dLt : OpR X (compareOp .Lt) rLtD := op_lt
theorem dLe : OpR X (compareOp .LtE) rLeD := op_le
theorem dGt : OpR X (compareOp .Gt) rGtD := op_gt
theorem dGe : OpR X (compareOp .GtE) rGeD := op_ge
theorem dEq : OpR X (compareOp .Eq) rEq := op_eq
theorem dNe : OpR X (compareOp .NotEq) rNe := op_ne
theorem dIn (hK : X.K = K := by rfl) : OpR X (compareOp .In) (rInD K false) := by subst hK; exact op_in_seq.or op_in_sign
theorem dNin (hK : X.K = K := by rfl) : OpR X (compareOp .NotIn) (rInD K true) := by subst hK; exact op_notIn_seq.or op_notIn_sign
theorem dIx (hK : X.K = K := by rfl) : IxR X (rIxD K) := by subst hK; exact ix_list.or (ix_tup.or ix_str)
theorem dInt : CallR X (.type "int") rIntD := call_int1
theorem dLen (hK : X.K = K := by rfl) : CallR X (.builtin "len") (rLenD K) := by subst hK; exact call_len
theorem dAbs : CallR X (.builtin "abs") rAbsD := call_abs
theorem dMax2 (hc : X.calm = true) : CallR X (.builtin "max") rMax2D := call_max2 hc
theorem dMin2 (hc : X.calm = true) : CallR X (.builtin "min") rMin2D := call_min2 hc
theorem dOrd : CallR X (.builtin "ord") rOrdD := call_ord
theorem dSum (hc : X.calm = true) (hK : X.K = K := by rfl) : CallR X (.builtin "sum") (rSum K) := by subst hK; exact cr_sum hc
theorem dAll (hc : X.calm = true) (hK : X.K = K := by rfl) : CallR X (.builtin "all") (rAll K) := by subst hK; exact cr_all hc
theorem dAny (hc : X.calm = true) (hK : X.K = K := by rfl) : CallR X (.builtin "any") (rAny K) := by subst hK; exact cr_any hc
theorem dMax1 (hc : X.calm = true) (hK : X.K = K := by rfl) : CallR X (.builtin "max") (rMax K) := by subst hK; exact cr_max hc
theorem dMin1 (hc : X.calm = true) (hK : X.K = K := by rfl) : CallR X (.builtin "min") (rMin K) := by subst hK; exact cr_min hc
theorem dIsi (hK : X.K = K := by rfl) : CallR X (.builtin "isinstance") (rIsi K) := by subst hK; exact call_isi
theorem dpi_list {tg l : Expr} {tl : TE} (hl : PE X l tl) (hK : X.K = K := by rfl) : PI X tg l (iList K tl) := by subst hK; exact pi_list hl
theorem dpi_tup {tg l : Expr} {tl : TE} (hl : PE X l tl) (hK : X.K = K := by rfl) : PI X tg l (iTup K tl) := by subst hK; exact pi_tup hl
theorem dpg_tup {es : List Expr} {k : Nat} {t : TGs} {n : Nat} {pos : Pos} (hc : X.calm = true) (h : PGs X es t) (hK : X.K = K := by rfl)
    (hn : (assignEach es X.env).length = n := by rfl) (hst : (assignEach es X.env).findIdx? (·.1) = none := by rfl) : PG X (.Tuple es k pos) (gTup K n t) := by subst hK; exact pg_tup hc h hn hst
def rSlD : V → Option Int → Option Int → Hp → VK → Prop := fun x lo hi H Q => rSlL K x lo hi H Q ∨ rSlS x lo hi H Q
theorem SlRor {r r' : V → Option Int → Option Int → Hp → VK → Prop} (h : SlR X r) (h' : SlR X r') : SlR X (fun x lo hi H Q => r x lo hi H Q ∨ r' x lo hi H Q) := by
  intro pins s σ H x v vl vu lo hi sl Q I rx hs pl pu q
  rcases q with q | q
  · exact h pins s σ H x v vl vu lo hi sl Q I rx hs pl pu q
  · exact h' pins s σ H x v vl vu lo hi sl Q I rx hs pl pu q
theorem dSl (hK : X.K = K := by rfl) : SlR X (rSlD K) := by subst hK; exact SlRor sl_list sl_str
end
/-! ### the reading, head by head -/
section
variable {K : PySem.W.Frag} {σ : L2.St} {H : Hp} {Q : VK} {D : Ends} {ta tb tc te : TE} {t u : TT} {tr : TA} {v x y : V} {g : TG}
theorem rd_var {i : Nat} (h : σ[i]? = some (some v)) (q : Q v H) : tVar i σ H Q := ⟨v, h, q⟩
theorem rd_c (q : Q v H) : tC v σ H Q := q
theorem rd_op {r : R2} (q : ta σ H fun x H1 => tb σ H1 fun y H2 => r x y H2 Q) : tOp r ta tb σ H Q := q
theorem rd_un {r : V → Hp → VK → Prop} (q : ta σ H fun x H1 => r x H1 Q) : tUn r ta σ H Q := q
theorem rd_cb {r : List V → Hp → VK → Prop} (q : tr σ H fun vs H1 => r vs H1 Q) : tCB r tr σ H Q := q
theorem rd_cons {Q : List V → Hp → Prop} (q : ta σ H fun x H1 => tr σ H1 fun xs H2 => Q (x :: xs) H2) : tCons ta tr σ H Q := q
theorem rd_nil {Q : List V → Hp → Prop} (q : Q [] H) : tNil σ H Q := q
theorem rd_test {Q : Bool → Hp → Prop} (q : te σ H fun x H' => ∃ k, x = .bl k ∧ Q k H') : tTest te σ H Q := q
theorem rd_B {Q : Bool → Hp → Prop} (q : te σ H fun x H' => ∃ k, x = .bl k ∧ Q k H') : tB te σ H Q := q
theorem rd_bl {c : Bool} {P : Bool → Prop} (q : P c) : ∃ k, V.bl c = V.bl k ∧ P k := ⟨c, rfl, q⟩
theorem rd_and {Q : Bool → Hp → Prop} (q : t σ H fun c H1 => if c = true then u σ H1 Q else Q false H1) : tAnd t u σ H Q := q
theorem rd_or {Q : Bool → Hp → Prop} (q : t σ H fun c H1 => if c = true then Q true H1 else u σ H1 Q) : tOr t u σ H Q := q
theorem rd_not {Q : Bool → Hp → Prop} (q : t σ H fun c H1 => Q (!c) H1) : tNot t σ H Q := q
theorem rd_andV (q : ta σ H fun x H1 => ∃ c, x = .bl c ∧ if c = true then tb σ H1 Q else Q (.bl false) H1) : tAndV ta tb σ H Q := q
theorem rd_orV (q : ta σ H fun x H1 => ∃ c, x = .bl c ∧ if c = true then Q (.bl true) H1 else tb σ H1 Q) : tOrV ta tb σ H Q := q
theorem rd_notV (q : ta σ H fun x H1 => ∃ c, x = .bl c ∧ Q (.bl (!c)) H1) : tNotV ta σ H Q := q
theorem rd_ifE (q : t σ H fun c H1 => if c = true then ta σ H1 Q else tb σ H1 Q) : tIf t ta tb σ H Q := q
theorem rd_chain {r r' : R2} (q : ta σ H fun x H1 => tb σ H1 fun y H2 => r x y H2 fun z H3 => ∃ k, z = .bl k ∧ if k = true then (tc σ H3 fun a H4 => r' y a H4 Q) else Q (.bl false) H3) : tChain r r' ta tb tc σ H Q := q
theorem rd_seq {s1 s2 : TS} (q : s1 { D with nx := s2 D } σ H) : tSeq s1 s2 D σ H := q
theorem rd_next (q : D.nx σ H) : tNext D σ H := q
theorem rd_if {s1 s2 : TS} (q : t σ H fun b H1 => if b = true then s1 D σ H1 else s2 D σ H1) : tIfS t s1 s2 D σ H := q
theorem rd_asg (q : te σ H fun x H1 => g x σ H1 D.nx) : tAsg te g D σ H := q
theorem rd_gname {i : Nat} {Q : L2.St → Hp → Prop} (q : Q (σ.set i (some v)) H) : gName i v σ H Q := q
theorem rd_gsub {ti to : TE} {ts : TSet} {Q : L2.St → Hp → Prop} (q : to σ H fun o H1 => ti σ H1 fun i H2 => ts o i v H2 fun H3 => Q σ H3) : gSub to ti ts v σ H Q := q
theorem rd_drop (q : te σ H fun _ H1 => D.nx σ H1) : tDrop te D σ H := q
theorem rd_ret (q : te σ H D.rt) : tRet te D σ H := q
theorem rd_retN (q : D.rt .non H) : tRetN D σ H := q
theorem rd_brk (q : D.bk σ H) : tBreak D σ H := q
theorem rd_cnt (q : D.ct σ H) : tCont D σ H := q
theorem rd_tup {tr : TA} (q : tr σ H fun xs H1 => xs.length ≤ sizeLine ∧ ∀ p, H1 p = none → Q (.ref p) (upd H1 p (.tup xs))) : tTup tr σ H Q := q
theorem rd_lst {tr : TA} (q : tr σ H fun xs H1 => xs.length ≤ sizeLine ∧ ∀ p, H1 p = none → Q (.ref p) (upd H1 p (.lst xs))) : tLst tr σ H Q := q
theorem rd_BM {T : String} {r : V → List V → Hp → VK → Prop} (q : te σ H fun x H1 => tyV K T x H1 ∧ tr σ H1 fun vs H2 => r x vs H2 Q) : tBM K T r te tr σ H Q := q
theorem rd_M1 {r : V → List V → Hp → VK → Prop} (q : ta σ H fun x H1 => (∃ a, x = .str a) ∧ tb σ H1 fun y H2 => r x [y] H2 Q) : tM1 r ta tb σ H Q := q
theorem rd_M0 {r : V → List V → Hp → VK → Prop} (q : ta σ H fun x H1 => (∃ a, x = .str a) ∧ r x [] H1 Q) : tM0 r ta σ H Q := q
theorem rd_isS {a : Str} {P : Prop} (q : P) : (∃ b, V.str a = V.str b) ∧ P := ⟨⟨a, rfl⟩, q⟩
theorem rd_call {sp : Sp} {dvs : List V} {E : XK} (q : tr σ H fun vs H1 => sp (vs ++ dvs) H1 Q E) : tCall sp dvs E tr σ H Q := q
theorem rd_andB {b b' : Bool} (hb : ∀ Qe : VK, Qe (.bl b') H → tb σ H Qe) (q : Q (.bl (b && b')) H) : ∃ c, V.bl b = .bl c ∧ if c = true then tb σ H Q else Q (.bl false) H := by
  refine ⟨b, rfl, ?_⟩
  cases b
  · exact iteF q
  · exact iteT (hb _ q)
theorem rd_orB {b b' : Bool} (hb : ∀ Qe : VK, Qe (.bl b') H → tb σ H Qe) (q : Q (.bl (b || b')) H) : ∃ c, V.bl b = .bl c ∧ if c = true then Q (.bl true) H else tb σ H Q := by
  refine ⟨b, rfl, ?_⟩
  cases b
  · exact iteF (hb _ q)
  · exact iteT q
theorem rd_tyL {a : Addr} {xs : List V} {P : Prop} (h : SqL K H a xs) (q : P) : tyV K "list" (.ref a) H ∧ P := ⟨.inl ⟨rfl, _, h⟩, q⟩
theorem rd_tyS {z : Str} {P : Prop} (q : P) : tyV K "str" (.str z) H ∧ P := ⟨rfl, q⟩
theorem rd_gtup {n : Nat} {ts : TGs} {a : Addr} {xs : List V} {Q : L2.St → Hp → Prop} (h : SqT K H a xs) (hn : xs.length = n) (q : ts xs σ H Q) : gTup K n ts (.ref a) σ H Q := ⟨a, xs, rfl, h, hn, q⟩
theorem rd_gcons {ts : TGs} {vs : List V} {Q : L2.St → Hp → Prop} (q : g v σ H fun σ' H' => ts vs σ' H' Q) : gCons g ts (v :: vs) σ H Q := ⟨v, vs, rfl, q⟩
theorem rd_gnil {Q : L2.St → Hp → Prop} (q : Q σ H) : gNil [] σ H Q := ⟨rfl, q⟩
theorem rd_sl {r : V → Option Int → Option Int → Hp → VK → Prop} {tl th : TO} (q : te σ H fun x H1 => tl σ H1 fun l H2 => th σ H2 fun u H3 => r x l u H3 Q) : tSl r te tl th σ H Q := q
theorem rd_nopart {Q : Option Int → Hp → Prop} (q : Q none H) : tNoPart σ H Q := q
theorem rd_part {Q : Option Int → Hp → Prop} (q : te σ H fun x H1 => ∃ i, x = .int i ∧ Q (some i) H1) : tPart te σ H Q := q
theorem rd_ii {i : Int} {P : Int → Prop} (q : P i) : ∃ k, V.int i = V.int k ∧ P k := ⟨i, rfl, q⟩
-- values
theorem rv_addI {i j : Int} (q : Q (.int (i + j)) H) : rAddD K (.int i) (.int j) H Q := .inl ⟨i, j, rfl, rfl, q⟩
theorem rv_addS {i j : Str} (h : i.length + j.length ≤ sizeLine) (q : Q (.str (i ++ j)) H) : rAddD K (.str i) (.str j) H Q := .inr (.inl ⟨i, j, rfl, rfl, h, q⟩)
theorem rv_addL {a b : Addr} {xs ys : List V} (ha : H a = some (.lst xs)) (hb : H b = some (.lst ys)) (h : xs.length + ys.length ≤ sizeLine) (q : ∀ p, H p = none → Q (.ref p) (upd H p (.lst (xs ++ ys)))) : rAddD K (.ref a) (.ref b) H Q := .inr (.inr (.inl ⟨a, b, xs, ys, rfl, rfl, ha, hb, h, q⟩))
theorem rv_sub {i j : Int} (q : Q (.int (i - j)) H) : rSubD (.int i) (.int j) H Q := ⟨i, j, rfl, rfl, q⟩
theorem rv_mulI {i j : Int} (c : CMul i j) (q : Q (.int (i * j)) H) : rMulD (.int i) (.int j) H Q := .inl ⟨i, j, rfl, rfl, c, q⟩
theorem rv_rep {l : Addr} {k : Int} {xs : List V} (h : H l = some (.lst xs)) (c : -(2 ^ 63) ≤ k ∧ k < 2 ^ 63 ∧ xs.length * k.toNat ≤ sizeLine) (q : ∀ p, H p = none → Q (.ref p) (upd H p (.lst (List.replicate k.toNat xs).flatten))) : rMulD (.ref l) (.int k) H Q := .inr ⟨l, k, xs, rfl, rfl, h, c.1, c.2.1, c.2.2, q⟩
theorem rv_mod {i j : Int} (c : j ≠ 0) (q : Q (.int (i.fmod j)) H) : rModD (.int i) (.int j) H Q := ⟨i, j, rfl, rfl, c, q⟩
theorem rv_div {i j : Int} (c : CDivW i j) (q : Q (.int (i / j)) H) : rDivD (.int i) (.int j) H Q := ⟨i, j, rfl, rfl, c, q⟩
theorem rv_pow {i j : Int} (c : CPow i j) (q : Q (.int (i ^ j.toNat)) H) : rPowD (.int i) (.int j) H Q := ⟨i, j, rfl, rfl, c, q⟩
theorem rv_lt {i j : Int} (q : Q (.bl (decide (i < j))) H) : rLtD (.int i) (.int j) H Q := ⟨i, j, rfl, rfl, q⟩
theorem rv_le {i j : Int} (q : Q (.bl (decide (i ≤ j))) H) : rLeD (.int i) (.int j) H Q := ⟨i, j, rfl, rfl, q⟩
theorem rv_gt {i j : Int} (q : Q (.bl (decide (j < i))) H) : rGtD (.int i) (.int j) H Q := ⟨i, j, rfl, rfl, q⟩
theorem rv_ge {i j : Int} (q : Q (.bl (decide (j ≤ i))) H) : rGeD (.int i) (.int j) H Q := ⟨i, j, rfl, rfl, q⟩
theorem dec_int (i j : Int) : decide (V.int i = V.int j) = decide (i = j) := decide_eq_decide.mpr ⟨V.int.inj, fun e => by rw [e]⟩
theorem dec_str (i j : Str) : decide (V.str i = V.str j) = decide (i = j) := decide_eq_decide.mpr ⟨V.str.inj, fun e => by rw [e]⟩
theorem dec_bl (i j : Bool) : decide (V.bl i = V.bl j) = decide (i = j) := decide_eq_decide.mpr ⟨V.bl.inj, fun e => by rw [e]⟩
theorem rv_eqI {i j : Int} (q : Q (.bl (decide (i = j))) H) : rEq (.int i) (.int j) H Q := ⟨rfl, by rw [dec_int]; exact q⟩
theorem rv_eqS {i j : Str} (q : Q (.bl (decide (i = j))) H) : rEq (.str i) (.str j) H Q := ⟨rfl, by rw [dec_str]; exact q⟩
theorem rv_eqB {i j : Bool} (q : Q (.bl (decide (i = j))) H) : rEq (.bl i) (.bl j) H Q := ⟨rfl, by rw [dec_bl]; exact q⟩
theorem rv_neI {i j : Int} (q : Q (.bl (!decide (i = j))) H) : rNe (.int i) (.int j) H Q := ⟨rfl, by rw [dec_int]; exact q⟩
theorem rv_neS {i j : Str} (q : Q (.bl (!decide (i = j))) H) : rNe (.str i) (.str j) H Q := ⟨rfl, by rw [dec_str]; exact q⟩
theorem rv_neB {i j : Bool} (q : Q (.bl (!decide (i = j))) H) : rNe (.bl i) (.bl j) H Q := ⟨rfl, by rw [dec_bl]; exact q⟩
theorem rv_ixL {p : Addr} {xs : List V} {i : Int} (h : SqL K H p xs) (c : atI xs i = some v) (q : Q v H) : rIxD K (.ref p) (.int i) H Q := .inl ⟨p, xs, i, v, rfl, rfl, h, c, q⟩
theorem rv_ixT {p : Addr} {xs : List V} {i : Int} (h : SqT K H p xs) (c : atI xs i = some v) (q : Q v H) : rIxD K (.ref p) (.int i) H Q := .inr (.inl ⟨p, xs, i, v, rfl, rfl, h, c, q⟩)
theorem rv_ixS {z : Str} {i : Int} {c : Nat} (h : z.length ≤ sizeLine) (e : atI z.cps.toList i = some c) (q : Q (.str ⟨#[c]⟩) H) : rIxD K (.str z) (.int i) H Q := .inr (.inr ⟨z, i, c, rfl, rfl, h, e, q⟩)
theorem rv_inS {c : Nat} {z : Str} (q : Q (.bl (decide (c ∈ z.cps.toList))) H) : rInD K false (.str ⟨#[c]⟩) (.str z) H Q := .inr ⟨c, z, rfl, rfl, q⟩
theorem rv_ninS {c : Nat} {z : Str} (q : Q (.bl (!decide (c ∈ z.cps.toList))) H) : rInD K true (.str ⟨#[c]⟩) (.str z) H Q := .inr ⟨c, z, rfl, rfl, q⟩
theorem rv_inL {p : Addr} {xs : List V} (h : SqL K H p xs) (hx : flatV x = true) (hf : xs.all flatV = true) (q : Q (.bl (inV x xs)) H) : rInD K false x (.ref p) H Q := .inl ⟨p, xs, rfl, .inl h, hx, hf, q⟩
theorem rv_ninL {p : Addr} {xs : List V} (h : SqL K H p xs) (hx : flatV x = true) (hf : xs.all flatV = true) (q : Q (.bl (!inV x xs)) H) : rInD K true x (.ref p) H Q := .inl ⟨p, xs, rfl, .inl h, hx, hf, q⟩
theorem rv_all {p : Addr} {bs : List Bool} (h : SqL K H p (bs.map V.bl)) (q : Q (.bl (bs.all id)) H) : rAll K [.ref p] H Q := ⟨p, bs, rfl, h, q⟩
theorem rv_int {i : Int} (q : Q (.int i) H) : rIntD [.int i] H Q := .inl ⟨i, rfl, q⟩
theorem rv_lenL {p : Addr} {xs : List V} (h : SqL K H p xs) (q : Q (.int xs.length) H) : rLenD K [.ref p] H Q := ⟨_, _, rfl, .inl ⟨xs, h, rfl⟩, q⟩
theorem rv_lenT {p : Addr} {xs : List V} (h : SqT K H p xs) (q : Q (.int xs.length) H) : rLenD K [.ref p] H Q := ⟨_, _, rfl, .inr ⟨xs, h, rfl⟩, q⟩
theorem rv_lenS {z : Str} (h : z.length ≤ sizeLine) (q : Q (.int z.length) H) : rLenD K [.str z] H Q := ⟨_, _, rfl, ⟨h, rfl⟩, q⟩
theorem rv_abs {i : Int} (q : Q (.int (if i < 0 then -i else i)) H) : rAbsD [.int i] H Q := ⟨i, rfl, q⟩
theorem rv_max2 {i j : Int} (q : Q (.int (if j > i then j else i)) H) : rMax2D [.int i, .int j] H Q := ⟨i, j, rfl, q⟩
theorem rv_min2 {i j : Int} (q : Q (.int (if j < i then j else i)) H) : rMin2D [.int i, .int j] H Q := ⟨i, j, rfl, q⟩
theorem rv_ord {c : Nat} (q : Q (.int (c : Int)) H) : rOrdD [.str ⟨#[c]⟩] H Q := ⟨_, rfl, rfl, q⟩
theorem rv_setL {p : Addr} {xs : List V} {k : Int} {j : Nat} {Q : Hp → Prop} (h : H p = some (.lst xs)) (c : ixN xs.length k = some j) (q : Q (upd H p (.lst (xs.set j v)))) : rSetL (.ref p) (.int k) v H Q := ⟨p, xs, k, j, rfl, rfl, h, c, q⟩
theorem rv_app {l : Addr} {xs : List V} (h : H l = some (.lst xs)) (c : xs.length < sizeLine) (q : Q .non (upd H l (.lst (xs ++ [y])))) : rAppend (.ref l) [y] H Q := ⟨l, xs, y, rfl, rfl, h, c, q⟩
theorem rv_ext {l b : Addr} {xs zs : List V} (h : H l = some (.lst xs)) (h2 : H b = some (.lst zs)) (c : xs.length + zs.length ≤ sizeLine) (q : Q .non (upd H l (.lst (xs ++ zs)))) : rExtend (.ref l) [.ref b] H Q := ⟨l, b, xs, zs, rfl, rfl, h, h2, c, q⟩
theorem rv_slL {p : Addr} {xs : List V} {lo hi : Option Int} (h : SqL K H p xs) (q : ∀ a, H a = none → Q (.ref a) (upd H a (.lst (cutV xs lo hi)))) : rSlD K (.ref p) lo hi H Q := .inl ⟨p, xs, rfl, h, q⟩
theorem rv_slS {z : Str} {lo hi : Option Int} (h : z.length ≤ sizeLine) (q : Q (.str (cutS z lo hi)) H) : rSlD K (.str z) lo hi H Q := .inr ⟨z, rfl, h, q⟩
theorem rv_neg {i : Int} (q : Q (.int (-i)) H) : rU (fun i => .int (-i)) (.int i) H Q := ⟨i, rfl, q⟩
end
/-! ### heaps -/
theorem same_upd {H : Hp} {p : Addr} {o : HO} (h : H p = none) : Same H (upd H p o) := fun b x e => by
  rw [upd_ne (ne_of_none e h)]
  exact e
/-- all that stands elsewhere than at b is kept -/
def Off (b : Addr) (H H' : Hp) : Prop := ∀ a o, a ≠ b → H a = some o → H' a = some o
theorem Off.get {b : Addr} {H H' : Hp} {a : Addr} {o : HO} (h : Off b H H') (n : a ≠ b) (e : H a = some o) : H' a = some o := h a o n e
theorem Off.refl (b : Addr) (H : Hp) : Off b H H := fun _ _ _ e => e
theorem Off.trans {b : Addr} {H H1 H2 : Hp} (x : Off b H H1) (y : Off b H1 H2) : Off b H H2 := fun a o n e => y a o n (x a o n e)
theorem Off.new {b : Addr} {H H1 : Hp} {p : Addr} {o : HO} (x : Off b H H1) (h : H1 p = none) : Off b H (upd H1 p o) := fun a u n e => by
  have z := x a u n e
  rw [upd_ne (ne_of_none z h)]
  exact z
theorem Off.set {b : Addr} {H H1 : Hp} {o : HO} (x : Off b H H1) : Off b H (upd H1 b o) := fun a u n e => by
  rw [upd_ne n]
  exact x a u n e
theorem Off.mut {b : Addr} {H H1 : Hp} {p : Addr} {o : HO} (x : Off b H H1) (h : H p = none) : Off b H (upd H1 p o) := fun a u n e => by
  rw [upd_ne (ne_of_none e h)]
  exact x a u n e
theorem Off.of_same {b : Addr} {H H1 : Hp} (x : Same H H1) : Off b H H1 := fun a o _ e => x a o e
theorem Off.fresh {b : Addr} {H H1 : Hp} {p : Addr} (x : Off b H H1) (n : p ≠ b) (h : H1 p = none) : H p = none := by
  cases e : H p with
  | none => rfl
  | some o => rw [x p o n e] at h; cases h
theorem Off.seq {K : PySem.W.Frag} {b : Addr} {H H' : Hp} {a : Addr} {xs : List V} (h : Off b H H') (n : a ≠ b) (e : SqL K H a xs) : SqL K H' a xs := by
  rcases e with e | e
  · rcases e with e | ⟨o, e⟩
    · exact .inl (.inl (h a _ n e))
    · exact .inl (.inr ⟨o, h a _ n e⟩)
  · exact .inr e
theorem Off.seqT {K : PySem.W.Frag} {b : Addr} {H H' : Hp} {a : Addr} {xs : List V} (h : Off b H H') (n : a ≠ b) (e : SqT K H a xs) : SqT K H' a xs := by
  rcases e with e | e
  · rcases e with e | ⟨o, e⟩
    · exact .inl (.inl (h a _ n e))
    · exact .inl (.inr ⟨o, h a _ n e⟩)
  · exact .inr e
theorem sq_set {K : PySem.W.Frag} {H : Hp} {b c : Addr} {o : HO} {xs : List V} (n : c ≠ b) (e : SqL K H c xs) : SqL K (upd H b o) c xs := (Off.refl b H).set.seq n e
theorem sq_new {K : PySem.W.Frag} {H : Hp} {p c : Addr} {o : HO} {xs : List V} (n : H p = none) (e : SqL K H c xs) : SqL K (upd H p o) c xs := (same_upd n).seq e
theorem hp_set {H : Hp} {b a : Addr} {o : HO} {u : Option HO} (n : a ≠ b) (e : H a = u) : upd H b o a = u := (upd_ne n).trans e
theorem hp_new {H : Hp} {p a : Addr} {o u : HO} (n : H p = none) (e : H a = some u) : upd H p o a = some u := same_upd n _ _ e
/-! ### tests -/
theorem iteD {p A B : Prop} [Decidable p] (h1 : p → A) (h2 : ¬ p → B) : if decide p = true then A else B := by
  by_cases h : p
  · rw [if_pos (decide_eq_true h)]; exact h1 h
  · rw [if_neg (by simpa using h)]; exact h2 h
theorem iteND {p A B : Prop} [Decidable p] (h1 : ¬ p → A) (h2 : p → B) : if (!decide p) = true then A else B := by
  by_cases h : p
  · rw [if_neg (by simpa using h)]; exact h2 h
  · rw [if_pos (by simpa using h)]; exact h1 h
theorem iteB {b : Bool} {A B : Prop} (h1 : b = true → A) (h2 : b = false → B) : if b = true then A else B := by
  cases b
  · rw [if_neg Bool.false_ne_true]; exact h2 rfl
  · rw [if_pos rfl]; exact h1 rfl
/-! ### numbers -/
theorem sz4 {n : Nat} (h : n ≤ 100000) : n ≤ sizeLine := Nat.le_trans h (by decide)
theorem sz4' {n : Nat} (h : n ≤ 100000) : n < sizeLine := Nat.lt_of_le_of_lt h (by decide)
theorem at_ints {cs : List Int} {i : Int} (h0 : 0 ≤ i) (h1 : i < ((cs.map V.int).length : Int)) : atI (cs.map V.int) i = some (.int (cs.getD i.toNat 0)) := by
  obtain ⟨j, rfl⟩ := Int.eq_ofNat_of_zero_le h0
  have hl : j < cs.length := by rw [List.length_map] at h1; omega
  refine atI_nat ?_
  rw [List.getElem?_map, List.getElem?_eq_getElem hl]
  simp [List.getD_eq_getElem?_getD, hl]
theorem fm0 {x m : Int} (h : 0 < m) : 0 ≤ x.fmod m := by rw [Int.fmod_eq_emod_of_nonneg _ (by omega)]; exact Int.emod_nonneg _ (by omega)
theorem fm1 {x m : Int} (h : 0 < m) : x.fmod m < m := by rw [Int.fmod_eq_emod_of_nonneg _ (by omega)]; exact Int.emod_lt_of_pos _ h
theorem mul_fm {x c j : Int} (h : 0 < c) (h2 : c ≤ 2 ^ 64) : CMul (x.fmod c) j := .inl ⟨by have := fm0 (x := x) h; omega, by have := fm1 (x := x) h; omega⟩
theorem div_m {z m : Int} (h : 0 < m) (h2 : m < 2 ^ 1000) : CDivW z m := wide_div (b := 1000) h (by omega) (by decide) (by decide)
theorem div97 {z : Int} : CDivW z 97 := wide_div (b := 8) (by decide) (by decide) (by decide) (by decide)
theorem div3 {z : Int} : CDivW z 3 := wide_div (b := 8) (by decide) (by decide) (by decide) (by decide)
theorem div2 {z : Int} : CDivW z 2 := wide_div (b := 8) (by decide) (by decide) (by decide) (by decide)
/-! ### the bag of draws -/
def BagAt (b c : Addr) (cs : List Int) (H : Hp) : Prop := ∃ (i z s n k : Int), H b = some (.lst [.ref c, .int i, .int z, .int s, .int n, .int k]) ∧ c ≠ b ∧ H c = some (.lst (cs.map V.int)) ∧ 0 ≤ i ∧ 0 ≤ z
theorem BagAt.ne {b c : Addr} {cs : List Int} {H : Hp} {p : Addr} (x : BagAt b c cs H) (h : H p = none) : p ≠ b := by
  obtain ⟨i, z, s, n, k, e, _⟩ := x
  exact (ne_of_none e h).symm
theorem BagAt.ne2 {b c : Addr} {cs : List Int} {H : Hp} {p : Addr} (x : BagAt b c cs H) (h : H p = none) : p ≠ c := by
  obtain ⟨i, z, s, n, k, e, _, e2, _⟩ := x
  exact (ne_of_none e2 h).symm
theorem BagAt.put {b c : Addr} {cs : List Int} {H : Hp} {p : Addr} {o : HO} (x : BagAt b c cs H) (h : p ≠ b) (h2 : p ≠ c) : BagAt b c cs (upd H p o) := by
  obtain ⟨i, z, s, n, k, e, nc, hc, h1, h2'⟩ := x
  exact ⟨i, z, s, n, k, (upd_ne h.symm).trans e, nc, (upd_ne h2.symm).trans hc, h1, h2'⟩
theorem BagAt.new {b c : Addr} {cs : List Int} {H : Hp} {p : Addr} {o : HO} (x : BagAt b c cs H) (h : H p = none) : BagAt b c cs (upd H p o) := x.put (x.ne h) (x.ne2 h)
theorem BagAt.same {b c : Addr} {cs : List Int} {H H' : Hp} (x : BagAt b c cs H) (f : Same H H') : BagAt b c cs H' := by
  obtain ⟨i, z, s, n, k, e, nc, hc, h1, h2⟩ := x
  exact ⟨i, z, s, n, k, f _ _ e, nc, f _ _ hc, h1, h2⟩
def spDraw : Sp := fun vs H Q _ => ∃ (b c : Addr) (cs : List Int) (m : Int), vs = [.ref b, .int m] ∧ 0 < m ∧ m < 2 ^ 1000 ∧ BagAt b c cs H ∧ ∀ H' (r : Int), Off b H H' → BagAt b c cs H' → 0 ≤ r → r < m → Q (.int r) H'
def spBag (K : PySem.W.Frag) : Sp := fun vs H Q _ => ∃ (a : Addr) (ns : List Int), vs = [.ref a] ∧ SqL K H a (ns.map V.int) ∧ ns.length ≤ 63 ∧ ∀ H' b c cs, Same H H' → H b = none → BagAt b c cs H' → Q (.ref b) H'
theorem at_all {xs : List V} {P : V → Prop} (h : ∀ v ∈ xs, P v) {i : Int} (h0 : 0 ≤ i) (h1 : i < (xs.length : Int)) : ∃ v, atI xs i = some v ∧ P v := by
  obtain ⟨j, rfl⟩ := Int.eq_ofNat_of_zero_le h0
  have hl : j < xs.length := by omega
  exact ⟨xs[j], atI_nat (List.getElem?_eq_getElem hl), h _ (List.getElem_mem hl)⟩
theorem at_str {z : Str} {i : Int} (h0 : 0 ≤ i) (h1 : i < (z.length : Int)) : ∃ c, atI z.cps.toList i = some c ∧ c ∈ z.cps.toList := by
  obtain ⟨j, rfl⟩ := Int.eq_ofNat_of_zero_le h0
  have hl : j < z.cps.toList.length := by have : z.cps.toList.length = z.length := by simp [Str.length]
                                          omega
  exact ⟨z.cps.toList[j], atI_nat (List.getElem?_eq_getElem hl), List.getElem_mem hl⟩
end D0
namespace D0
open PySem PySem.Spec PyProof.Rows L2
section
variable {K : PySem.W.Frag} {σ : L2.St} {H : Hp} {Q : VK} {te tl : TE} {ta : TA} {vs : List Nat} {j : Nat}
theorem rd_yes {Q : Bool → Hp → Prop} (q : Q true H) : tYes σ H Q := q
theorem rd_callN {n m : Nat} {sp : Sp} {gV : List V → List V → List V} {E : XK} {t tk : TA} (q : t σ H fun vs H1 => tk σ H1 fun zs H2 => vs.length = n ∧ zs.length = m ∧ sp (gV vs zs) H2 Q E) : tCallN n m sp gV E t tk σ H Q := q
theorem rv_slSany {z : Str} {lo hi : Option Int} (h : z.length ≤ sizeLine) (q : ∀ y : Str, y.length ≤ z.length → Q (.str y) H) : rSlD K (.str z) lo hi H Q := rv_slS h (q _ (cutS_length z lo hi))
theorem ones (us : List Nat) : (us.map fun _ => 1).sum = us.length := by
  induction us with
  | nil => rfl
  | cons x r ih => rw [List.map_cons, List.sum_cons, ih, List.length_cons]; omega
theorem strlen_app (a b : Str) : (a ++ b).length = a.length + b.length := PySem.Str.length_append a b
theorem dRevL {X : Cx} (K : PySem.W.Frag) {e : Expr} {te : TE} {k : Nat} {p1 p2 p3 pos : Pos} (he : PE X e te) (hK : X.K = K := by rfl) : PE X (.Subscript e (.Slice none none (some (.UnaryOp .USub (.Constant (.int 1) k p1) p2)) p3) pos) (tRevL K te) := by subst hK; exact pe_revL he
theorem rd_revL (q : te σ H fun x H1 => ∃ a xs, x = .ref a ∧ SqL K H1 a xs ∧ ∀ p, H1 p = none → Q (.ref p) (upd H1 p (.lst xs.reverse))) : tRevL K te σ H Q := q
theorem rv_revL {a : Addr} {xs : List V} {R : Addr → List V → Prop} (h : SqL K H a xs) (q : R a xs) : ∃ a' xs', V.ref a = .ref a' ∧ SqL K H a' xs' ∧ R a' xs' := ⟨a, xs, rfl, h, q⟩
theorem rd_rng1 {R : It → Hp → Prop} (q : ta σ H fun vs H1 => ∃ j : Int, vs = [.int j] ∧ -(2 ^ 62) ≤ j ∧ j < 2 ^ 62 ∧ R (Itr 0 j.toNat) H1) : iRng1 ta σ H R := q
theorem rd_ss {z : Str} {P : Str → Prop} (q : P z) : ∃ k, V.str z = V.str k ∧ P k := ⟨z, rfl, q⟩
theorem rv_up {z : Str} {P : Str → Prop} (h : z.length ≤ 5592405) (q : P z) : ∃ a, V.str z = V.str a ∧ ([] : List V) = [] ∧ a.length ≤ 5592405 ∧ P a := ⟨z, rfl, rfl, h, q⟩
theorem rd_iList {R : It → Hp → Prop} (q : te σ H fun x H1 => ∃ a, x = .ref a ∧ (∃ xs, SqL K H1 a xs) ∧ R (Itl K a) H1) : iList K te σ H R := q
theorem rv_iL {a : Addr} {xs : List V} {R : Addr → Prop} (h : SqL K H a xs) (q : R a) : ∃ a', V.ref a = .ref a' ∧ (∃ xs, SqL K H a' xs) ∧ R a' := ⟨a, rfl, ⟨xs, h⟩, q⟩
theorem rd_for {wi : TI} {g : TG} {tb : TS} {D : Ends} (q : wi σ H fun J H1 => ∃ W : Nat → Nat → L2.St → Hp → Prop, (∃ m, W 0 m σ H1) ∧ ∀ i m σ H, W i m σ H →
    (J.stop i H ∧ D.nx σ H) ∨ (J.go i H ∧ ∃ N : L2.St → Hp → Prop, (∀ σ' H', N σ' H' → ∃ m', m' < m ∧ W (i + 1) m' σ' H') ∧ ∀ x H', J.yld i H x H' → g x σ H' fun σ2 H2 => tb { D with nx := N, ct := N, bk := D.nx } σ2 H2)) : tFor wi g tb D σ H := q
theorem rv_isiB {b : Bool} {ty : String} {r : Bool} (h : kitB "bool" ty = some r) (q : Q (.bl r) H) : rIsi K [.bl b, .ty ty] H Q := ⟨_, _, _, _, _, rfl, .ty ty, .base (.bl b), kit_ty h, q⟩
theorem rv_isiI {b : Int} {ty : String} {r : Bool} (h : kitB "int" ty = some r) (q : Q (.bl r) H) : rIsi K [.int b, .ty ty] H Q := ⟨_, _, _, _, _, rfl, .ty ty, .base (.int b), kit_ty h, q⟩
theorem rv_isiN {ty : String} {r : Bool} (h : kitB "NoneType" ty = some r) (q : Q (.bl r) H) : rIsi K [.non, .ty ty] H Q := ⟨_, _, _, _, _, rfl, .ty ty, .base .non, kit_ty h, q⟩
theorem rv_isiL {a : Addr} {xs : List V} {ty : String} {r : Bool} (e : H a = some (.lst xs)) (h : kitB "list" ty = some r) (q : Q (.bl r) H) : rIsi K [.ref a, .ty ty] H Q := ⟨_, _, _, _, _, rfl, .ty ty, .base (.lst e), kit_ty h, q⟩
theorem rv_isiT {a : Addr} {xs : List V} {ty : String} {r : Bool} (e : H a = some (.tup xs)) (h : kitB "tuple" ty = some r) (q : Q (.bl r) H) : rIsi K [.ref a, .ty ty] H Q := ⟨_, _, _, _, _, rfl, .ty ty, .base (.tup e), kit_ty h, q⟩
theorem rv_isiS {b : Str} {ty : String} {r : Bool} (h : kitB "str" ty = some r) (q : Q (.bl r) H) : rIsi K [.str b, .ty ty] H Q := ⟨_, _, _, _, _, rfl, .ty ty, .base (.str b), kit_ty h, q⟩
theorem isi_bool_bool : kitB "bool" "bool" = some true := by decide +kernel
theorem isi_bool_int : kitB "bool" "int" = some true := by decide +kernel
theorem isi_bool_str : kitB "bool" "str" = some false := by decide +kernel
theorem isi_bool_list : kitB "bool" "list" = some false := by decide +kernel
theorem isi_bool_tuple : kitB "bool" "tuple" = some false := by decide +kernel
theorem isi_bool_dict : kitB "bool" "dict" = some false := by decide +kernel
theorem isi_int_bool : kitB "int" "bool" = some false := by decide +kernel
theorem isi_int_int : kitB "int" "int" = some true := by decide +kernel
theorem isi_int_str : kitB "int" "str" = some false := by decide +kernel
theorem isi_int_list : kitB "int" "list" = some false := by decide +kernel
theorem isi_int_tuple : kitB "int" "tuple" = some false := by decide +kernel
theorem isi_int_dict : kitB "int" "dict" = some false := by decide +kernel
theorem isi_str_bool : kitB "str" "bool" = some false := by decide +kernel
theorem isi_str_int : kitB "str" "int" = some false := by decide +kernel
theorem isi_str_str : kitB "str" "str" = some true := by decide +kernel
theorem isi_str_list : kitB "str" "list" = some false := by decide +kernel
theorem isi_str_tuple : kitB "str" "tuple" = some false := by decide +kernel
theorem isi_str_dict : kitB "str" "dict" = some false := by decide +kernel
theorem isi_list_bool : kitB "list" "bool" = some false := by decide +kernel
theorem isi_list_int : kitB "list" "int" = some false := by decide +kernel
theorem isi_list_str : kitB "list" "str" = some false := by decide +kernel
theorem isi_list_list : kitB "list" "list" = some true := by decide +kernel
theorem isi_list_tuple : kitB "list" "tuple" = some false := by decide +kernel
theorem isi_list_dict : kitB "list" "dict" = some false := by decide +kernel
theorem isi_tuple_bool : kitB "tuple" "bool" = some false := by decide +kernel
theorem isi_tuple_int : kitB "tuple" "int" = some false := by decide +kernel
theorem isi_tuple_str : kitB "tuple" "str" = some false := by decide +kernel
theorem isi_tuple_list : kitB "tuple" "list" = some false := by decide +kernel
theorem isi_tuple_tuple : kitB "tuple" "tuple" = some true := by decide +kernel
theorem isi_tuple_dict : kitB "tuple" "dict" = some false := by decide +kernel
theorem isi_dict_bool : kitB "dict" "bool" = some false := by decide +kernel
theorem isi_dict_int : kitB "dict" "int" = some false := by decide +kernel
theorem isi_dict_str : kitB "dict" "str" = some false := by decide +kernel
theorem isi_dict_list : kitB "dict" "list" = some false := by decide +kernel
theorem isi_dict_tuple : kitB "dict" "tuple" = some false := by decide +kernel
theorem isi_dict_dict : kitB "dict" "dict" = some true := by decide +kernel
theorem isi_NoneType_bool : kitB "NoneType" "bool" = some false := by decide +kernel
theorem isi_NoneType_int : kitB "NoneType" "int" = some false := by decide +kernel
theorem isi_NoneType_str : kitB "NoneType" "str" = some false := by decide +kernel
theorem isi_NoneType_list : kitB "NoneType" "list" = some false := by decide +kernel
theorem isi_NoneType_tuple : kitB "NoneType" "tuple" = some false := by decide +kernel
theorem isi_NoneType_dict : kitB "NoneType" "dict" = some false := by decide +kernel
theorem rd_wipe {σ1 σ2 : L2.St} {R : Prop} (h : σ1 = σ2) (q : R) : σ1 = σ2 ∧ R := ⟨h, q⟩
theorem upd_lst {H : Hp} {D : Addr} {o u : HO} : upd (upd H D o) D u = upd H D u := upd_upd
/-- [e for x in xs], e of x a value f x -/
theorem lc_map {a : Addr} {xs : List V} (f : V → V) (hl : ∀ Qe : VK, Qe (.ref a) H → tl σ H Qe) (hs : SqL K H a xs) (hz : xs.length < sizeLine) (hw : ∀ x, wipe ((wipe σ vs).set j (some x)) vs = wipe σ vs)
    (he : ∀ (i : Nat) (x : V) (H' : Hp), xs[i]? = some x → Same H H' → ∀ Qe : VK, (∀ H'', Same H' H'' → Qe (f x) H'') → te ((wipe σ vs).set j (some x)) H' Qe)
    (q : ∀ D H', H D = none → Same H H' → H' D = some (.lst (xs.map f)) → Q (.ref D) H') : tLc (iList K tl) (gName j) tYes te vs σ H Q := by
  refine hl _ ⟨a, rfl, ⟨_, hs⟩, fun D hD => ?_⟩
  refine lc_list (K := K) (a := a) (xs := xs) (fun i H' => Same H H' ∧ H' D = some (.lst ((xs.take i).map f))) ⟨same_upd hD, upd_same⟩ (fun i H' _ h => h.1.seq hs) ?_ ?_
  · rintro i x H' hx ⟨s, e⟩
    refine ⟨hw x, rd_yes (iteT ?_)⟩
    refine he i x H' hx s _ fun H'' s2 => ?_
    refine ⟨_, s2 _ _ e, ?_, ?_, ?_⟩
    · rw [List.length_map, List.length_take]; omega
    · intro b o eb
      have nb : b ≠ D := ne_of_none eb hD
      rw [upd_ne nb]
      exact s2 _ _ (s _ _ eb)
    · rw [upd_same, List.take_add_one, hx, List.map_append]; rfl
  · rintro H' ⟨s, e⟩
    rw [List.take_length] at e
    exact q D H' hD s e
/-- [e for k in range(n)], e drawing from the bag at b; every item has P -/
theorem lc_draw {b c : Addr} {cs : List Int} {n : Nat} (P : V → Prop) (hn : n ≤ 1000000) (hl : ∀ Qe : List V → Hp → Prop, Qe [.int (n : Int)] H → ta σ H Qe) (B : BagAt b c cs H) (hw : ∀ x, wipe ((wipe σ vs).set j (some x)) vs = wipe σ vs)
    (he : ∀ (i : Nat) (H' : Hp), i < n → Off b H H' → BagAt b c cs H' → ∀ Qe : VK, (∀ (y : V) (H'' : Hp), Off b H' H'' → BagAt b c cs H'' → P y → Qe y H'') → te ((wipe σ vs).set j (some (.int (i : Int)))) H' Qe)
    (q : ∀ D ys H', H D = none → Off b H H' → BagAt b c cs H' → H' D = some (.lst ys) → ys.length = n → (∀ y ∈ ys, P y) → Q (.ref D) H') : tLc (iRng1 ta) (gName j) tYes te vs σ H Q := by
  have hz : n < sizeLine := Nat.lt_of_le_of_lt hn (by decide)
  refine hl _ ⟨(n : Int), rfl, by omega, by omega, fun D hD => ?_⟩
  have hDb : D ≠ b := B.ne hD
  have hDc : D ≠ c := B.ne2 hD
  refine lc_range (lo := 0) (n := ((n : Int)).toNat) (fun i H' => ∃ ys : List V, Off b H H' ∧ BagAt b c cs H' ∧ H' D = some (.lst ys) ∧ ys.length = i ∧ ∀ y ∈ ys, P y) ⟨[], (Off.refl b H).new hD, B.new hD, upd_same, rfl, fun y h => nomatch h⟩ ?_ ?_
  · rintro i H' hi ⟨ys, f, B', e, el, hp⟩
    refine ⟨hw _, rd_yes (iteT ?_)⟩
    rw [show (0 : Int) + (i : Int) = (i : Int) by omega]
    refine he i H' (by omega) f B' _ fun y H'' f2 B2 py => ?_
    have e2 := f2.get hDb e
    refine ⟨_, e2, by omega, ys ++ [y], (f.trans f2).mut hD, B2.put hDb hDc, upd_same, by simp [el], ?_⟩
    intro y' hy
    rcases List.mem_append.mp hy with hy | hy
    · exact hp y' hy
    · rw [List.mem_singleton.mp hy]; exact py
  · rintro H' ⟨ys, f, B', e, el, hp⟩
    exact q D ys H' hD f B' e (by omega) hp
/-- [e for s in text], e of a sign a value f c -/
theorem lc_smap {z : Str} (f : Nat → V) (hl : ∀ Qe : VK, Qe (.str z) H → tl σ H Qe) (hz : z.length < sizeLine) (hw : ∀ x, wipe ((wipe σ vs).set j (some x)) vs = wipe σ vs)
    (he : ∀ (i : Nat) (c : Nat) (H' : Hp), z.cps[i]? = some c → Same H H' → ∀ Qe : VK, (∀ H'', Same H' H'' → Qe (f c) H'') → te ((wipe σ vs).set j (some (.str ⟨#[c]⟩))) H' Qe)
    (q : ∀ D H', H D = none → Same H H' → H' D = some (.lst (z.cps.toList.map f)) → Q (.ref D) H') : tLc (iStr tl) (gName j) tYes te vs σ H Q := by
  refine hl _ ⟨z, rfl, fun D hD => ?_⟩
  refine ⟨fun i m H' => i + m = z.cps.size ∧ Same H H' ∧ H' D = some (.lst ((z.cps.toList.take i).map f)), ⟨z.cps.size, by omega, same_upd hD, upd_same⟩, ?_⟩
  rintro i m H' ⟨em, s, e⟩
  by_cases hi : i < z.cps.size
  · refine .inr ⟨hi, fun H2 => Same H H2 ∧ H2 D = some (.lst ((z.cps.toList.take (i + 1)).map f)), fun H2 h2 => ⟨m - 1, by omega, by omega, h2.1, h2.2⟩, ?_⟩
    rintro x H2 ⟨rfl, c, hc, rfl⟩
    refine ⟨hw _, rd_yes (iteT ?_)⟩
    refine he i c H2 hc s _ fun H'' s2 => ?_
    refine ⟨_, s2 _ _ e, ?_, ?_, ?_⟩
    · rw [List.length_map, List.length_take]; show _ < sizeLine; have : z.length = z.cps.size := rfl; have : z.cps.toList.length = z.cps.size := by simp
      omega
    · intro b o eb
      have nb : b ≠ D := ne_of_none eb hD
      rw [upd_ne nb]
      exact s2 _ _ (s _ _ eb)
    · have hc' : z.cps.toList[i]? = some c := by rw [Array.getElem?_toList]; exact hc
      rw [upd_same, List.take_add_one, hc', List.map_append]; rfl
  · refine .inl ⟨by show z.cps.size ≤ i; omega, ?_⟩
    have ei : z.cps.toList.take i = z.cps.toList := List.take_of_length_le (by simp; omega)
    rw [ei] at e
    exact q D H' hD s e
end
end D0
namespace D0
open PySem PySem.Spec PyProof.Rows L2
/-! ### tuples never change -/
def TS (H H' : Hp) : Prop := ∀ a xs, H a = some (.tup xs) → H' a = some (.tup xs)
theorem TS.refl (H : Hp) : TS H H := fun _ _ e => e
theorem TS.trans {H H1 H2 : Hp} (x : TS H H1) (y : TS H1 H2) : TS H H2 := fun a xs e => y a xs (x a xs e)
theorem TS.of_same {H H' : Hp} (x : Same H H') : TS H H' := fun a xs e => x a _ e
theorem TS.new {H H1 : Hp} {p : Addr} {o : HO} (x : TS H H1) (h : H1 p = none) : TS H (upd H1 p o) := x.trans (.of_same (same_upd h))
theorem TS.put {H H1 : Hp} {p : Addr} {ys : List V} {o : HO} (x : TS H H1) (h : H1 p = some (.lst ys)) : TS H (upd H1 p o) := fun a xs e => by
  have z := x a xs e
  rw [upd_ne (ne_of z h (fun q => by cases q))]
  exact z
theorem BagAt.ts {b c : Addr} {cs : List Int} {H H' : Hp} (x : BagAt b c cs H) (f : Off b H H') : TS H H' := fun a xs e => by
  obtain ⟨i, z, s, n, k, eb, _⟩ := x
  exact f a _ (ne_of e eb (fun q => by cases q)) e
/-- a tuple of ints -/
def Tn (H : Hp) (v : V) (ns : List Int) : Prop := ∃ a, v = .ref a ∧ H a = some (.tup (ns.map V.int))
theorem Tn.ts {H H' : Hp} {v : V} {ns : List Int} (x : Tn H v ns) (t : TS H H') : Tn H' v ns := by
  obtain ⟨a, e, h⟩ := x
  exact ⟨a, e, t _ _ h⟩
abbrev RowsAt (H : Hp) (vs : List V) (rs : List (List Int)) : Prop := Paired (Tn H) vs rs
theorem RowsAt.ts {H H' : Hp} {vs : List V} {rs : List (List Int)} (x : RowsAt H vs rs) (t : TS H H') : RowsAt H' vs rs := Paired.mapP x fun _ _ h => h.ts t
theorem Paired.get1 {α β : Type} {F : α → β → Prop} : ∀ {xs : List α} {ys : List β} {i : Nat} {x : α}, Paired F xs ys → xs[i]? = some x → ∃ y, ys[i]? = some y ∧ F x y
  | _, _, _, _, .nil, h => by cases h
  | _, _, 0, _, .cons f _, h => ⟨_, rfl, by cases h; exact f⟩
  | _, _, i + 1, _, .cons _ r, h => Paired.get1 (i := i) r h
theorem Paired.len {α β : Type} {F : α → β → Prop} : ∀ {xs : List α} {ys : List β}, Paired F xs ys → xs.length = ys.length
  | _, _, .nil => rfl
  | _, _, .cons _ r => by rw [List.length_cons, List.length_cons, Paired.len r]
/-- a system (count, bounds, pulls) -/
def SysAt (H : Hp) (v : V) (n : Nat) (bs ps : List (List Int)) : Prop := ∃ (a p q : Addr) (vb vp : List V), v = .ref a ∧ H a = some (.tup [.int n, .ref p, .ref q]) ∧ H p = some (.tup vb) ∧ RowsAt H vb bs ∧ H q = some (.tup vp) ∧ RowsAt H vp ps
theorem SysAt.ts {H H' : Hp} {v : V} {n : Nat} {bs ps : List (List Int)} (x : SysAt H v n bs ps) (t : TS H H') : SysAt H' v n bs ps := by
  obtain ⟨a, p, q, vb, vp, e, ha, hp, rb, hq, rp⟩ := x
  exact ⟨a, p, q, vb, vp, e, t _ _ ha, t _ _ hp, rb.ts t, t _ _ hq, rp.ts t⟩
def OkB (n : Nat) (bs : List (List Int)) : Prop := ∀ r ∈ bs, ∃ s e g : Int, r = [s, e, g] ∧ 0 ≤ s ∧ s < n ∧ 0 ≤ e ∧ e < n ∧ s ≠ e ∧ -1000000000 ≤ g ∧ g ≤ 1000000000
def OkP (n : Nat) (ps : List (List Int)) : Prop := ∀ r ∈ ps, ∃ s e g w : Int, r = [s, e, g, w] ∧ 0 ≤ s ∧ s < n ∧ 0 ≤ e ∧ e < n ∧ s ≠ e ∧ -1000000000 ≤ g ∧ g ≤ 1000000000 ∧ 0 ≤ w ∧ w ≤ 99
/-- the same, not seen by the walk -/
def OffG (b : Addr) (H H' : Hp) : Prop := Off b H H'
/-! ### promises -/
def spWhole : Sp := fun vs H Q _ => ∃ i : Int, vs = [.int i] ∧ Q (.bl true) H
def spGap : Sp := fun vs H Q _ => ∃ (b c : Addr) (cs : List Int), vs = [.ref b] ∧ BagAt b c cs H ∧ ∀ H' (g : Int), Off b H H' → BagAt b c cs H' → -1000000 ≤ g → g ≤ 1000000 → Q (.int g) H'
def spEnds : Sp := fun vs H Q _ => ∃ (b c : Addr) (cs : List Int) (n : Nat), vs = [.ref b, .int n] ∧ 2 ≤ n ∧ n ≤ 10000 ∧ BagAt b c cs H ∧ ∀ H' a (s e : Int), Off b H H' → BagAt b c cs H' → H' a = some (.tup [.int s, .int e]) → 0 ≤ s → s < n → 0 ≤ e → e < n → s ≠ e → Q (.ref a) H'
/-- all is kept but what stands at b and at l -/
def Off2 (b l : Addr) (H H' : Hp) : Prop := ∀ a o, a ≠ b → a ≠ l → H a = some o → H' a = some o
theorem Off2.of_off {b l : Addr} {H H' : Hp} (x : Off b H H') : Off2 b l H H' := fun a o n _ e => x a o n e
theorem Off2.mut {b l : Addr} {H H1 : Hp} {o : HO} (x : Off2 b l H H1) : Off2 b l H (upd H1 l o) := fun a u n n2 e => (upd_ne n2).trans (x a u n n2 e)
theorem Off2.new {b l p : Addr} {H H1 : Hp} {o : HO} (x : Off2 b l H H1) (h : H1 p = none) : Off2 b l H (upd H1 p o) := fun a u n n2 e => same_upd h _ _ (x a u n n2 e)
theorem Off2.off {b l : Addr} {H H1 H2 : Hp} (x : Off2 b l H1 H2) (f : Off b H H1) (h : H l = none) : Off b H H2 := fun a u n e => x a u n (ne_of_none e h) (f a u n e)
/-- its items as a tuple, or its items and one of them once more -/
def spDoubled : Sp := fun vs H Q _ => ∃ (b c : Addr) (cs : List Int) (l : Addr) (xs : List V), vs = [.ref b, .ref l] ∧ BagAt b c cs H ∧ H l = some (.lst xs) ∧ l ≠ b ∧ l ≠ c ∧ xs.length ≤ 10000 ∧
  ∀ H' a ys, Off2 b l H H' → BagAt b c cs H' → TS H H' → H' a = some (.tup ys) → (ys = xs ∨ ∃ (i : Nat) (y : V), xs[i]? = some y ∧ ys = xs ++ [y]) → Q (.ref a) H'
theorem RowsAt.dbl {H : Hp} {xs ys : List V} {rs : List (List Int)} (r : RowsAt H xs rs) (h : ys = xs ∨ ∃ (i : Nat) (y : V), xs[i]? = some y ∧ ys = xs ++ [y]) : ∃ rs', RowsAt H ys rs' ∧ (rs' = rs ∨ ∃ (i : Nat) (x : List Int), rs[i]? = some x ∧ rs' = rs ++ [x]) := by
  rcases h with rfl | ⟨i, y, e, rfl⟩
  · exact ⟨rs, r, .inl rfl⟩
  · obtain ⟨x, ex, f⟩ := Paired.get1 r e
    exact ⟨rs ++ [x], r.snoc f, .inr ⟨i, x, ex, rfl⟩⟩
def spSystem : Sp := fun vs H Q _ => ∃ (b c : Addr) (cs : List Int) (m : Nat), vs = [.ref b, .int m] ∧ m ≤ 1000 ∧ BagAt b c cs H ∧ ∀ H' v n bs ps, Off b H H' → BagAt b c cs H' → SysAt H' v n bs ps → OkB n bs → OkP n ps → n ≤ 1000 → bs.length ≤ 3000 → ps.length ≤ 3000 → Q v H'
theorem OkB.nil (n : Nat) : OkB n [] := fun _ h => nomatch h
theorem OkP.nil (n : Nat) : OkP n [] := fun _ h => nomatch h
theorem OkB.snoc {n : Nat} {bs : List (List Int)} {i : Nat} {r : List Int} (h : OkB n bs) (e : bs[i]? = some r) : OkB n (bs ++ [r]) := fun x hx => by
  rcases List.mem_append.mp hx with hx | hx
  · exact h x hx
  · rw [List.mem_singleton.mp hx]; exact h r (List.mem_of_getElem? e)
theorem OkB.dbl {n : Nat} {bs bs' : List (List Int)} (h : OkB n bs) (e : bs' = bs ∨ ∃ (i : Nat) (x : List Int), bs[i]? = some x ∧ bs' = bs ++ [x]) : OkB n bs' ∧ bs'.length ≤ bs.length + 1 := by
  rcases e with rfl | ⟨i, x, ex, rfl⟩
  · exact ⟨h, by omega⟩
  · exact ⟨h.snoc ex, by simp⟩
theorem OkP.snoc {n : Nat} {bs : List (List Int)} {i : Nat} {r : List Int} (h : OkP n bs) (e : bs[i]? = some r) : OkP n (bs ++ [r]) := fun x hx => by
  rcases List.mem_append.mp hx with hx | hx
  · exact h x hx
  · rw [List.mem_singleton.mp hx]; exact h r (List.mem_of_getElem? e)
theorem OkP.dbl {n : Nat} {bs bs' : List (List Int)} (h : OkP n bs) (e : bs' = bs ∨ ∃ (i : Nat) (x : List Int), bs[i]? = some x ∧ bs' = bs ++ [x]) : OkP n bs' ∧ bs'.length ≤ bs.length + 1 := by
  rcases e with rfl | ⟨i, x, ex, rfl⟩
  · exact ⟨h, by omega⟩
  · exact ⟨h.snoc ex, by simp⟩
section
variable {X : Cx} (K : PySem.W.Frag)
def rListD : List V → Hp → VK → Prop := fun xs H Q => ∃ p ys, xs = [.ref p] ∧ (SqL K H p ys ∨ SqT K H p ys) ∧ ∀ l, H l = none → Q (.ref l) (upd H l (.lst ys))
def rTupleD : List V → Hp → VK → Prop := fun xs H Q => ∃ p ys, xs = [.ref p] ∧ ((SqL K H p ys ∧ ∀ l, H l = none → Q (.ref l) (upd H l (.tup ys))) ∨ (SqT K H p ys ∧ Q (.ref p) H))
theorem dList (hK : X.K = K := by rfl) : CallR X (.type "list") (rListD K) := by subst hK; exact call_list_of
theorem dTuple (hK : X.K = K := by rfl) : CallR X (.type "tuple") (rTupleD K) := by subst hK; exact call_tuple_of
variable {K} {Q : VK} {H : Hp} {te : TE} {σ : L2.St}
theorem rv_listL {p : Addr} {ys : List V} (h : SqL K H p ys) (q : ∀ l, H l = none → Q (.ref l) (upd H l (.lst ys))) : rListD K [.ref p] H Q := ⟨p, ys, rfl, .inl h, q⟩
theorem rv_listT {p : Addr} {ys : List V} (h : SqT K H p ys) (q : ∀ l, H l = none → Q (.ref l) (upd H l (.lst ys))) : rListD K [.ref p] H Q := ⟨p, ys, rfl, .inr h, q⟩
theorem rv_tupL {p : Addr} {ys : List V} (h : SqL K H p ys) (q : ∀ l, H l = none → Q (.ref l) (upd H l (.tup ys))) : rTupleD K [.ref p] H Q := ⟨p, ys, rfl, .inl ⟨h, q⟩⟩
theorem rv_tupT {p : Addr} {ys : List V} (h : SqT K H p ys) (q : Q (.ref p) H) : rTupleD K [.ref p] H Q := ⟨p, ys, rfl, .inr ⟨h, q⟩⟩
theorem rd_iTup {R : It → Hp → Prop} (q : te σ H fun x H1 => ∃ a, x = .ref a ∧ (∃ xs, SqT K H1 a xs) ∧ R (Itt K a) H1) : iTup K te σ H R := q
theorem rv_iT {a : Addr} {xs : List V} {R : Addr → Prop} (h : SqT K H a xs) (q : R a) : ∃ a', V.ref a = .ref a' ∧ (∃ xs, SqT K H a' xs) ∧ R a' := ⟨a, rfl, ⟨xs, h⟩, q⟩
end
end D0
namespace D0
open PySem PySem.Spec PyProof.Rows L2
section
variable {K : PySem.W.Frag} {σ : L2.St} {H : Hp} {Q : VK} {te tl : TE} {ta : TA} {vs : List Nat} {j : Nat} {g : TG} {tt : TT}
theorem Tn.same {H H' : Hp} {v : V} {ns : List Int} (x : Tn H v ns) (t : Same H H') : Tn H' v ns := x.ts (.of_same t)
/-- a comprehension over a tuple of rows -/
theorem lc_rows {a : Addr} {xs : List V} {rs : List (List Int)} (f : V → List Int → V) (kp : List Int → Bool) (hl : ∀ Qe : VK, Qe (.ref a) H → tl σ H Qe) (hs : H a = some (.tup xs)) (hr : RowsAt H xs rs) (hz : xs.length ≤ 100000)
    (he : ∀ (x : V) (r : List Int) (H' : Hp) (Nx : VK) (E : Hp → Prop), r ∈ rs → Same H H' → Tn H' x r → (kp r = true → ∀ H'', Same H' H'' → Nx (f x r) H'') → (kp r = false → ∀ H'', Same H' H'' → E H'') →
      g x (wipe σ vs) H' fun σ2 H2 => wipe σ2 vs = wipe σ vs ∧ tt σ2 H2 fun b H3 => if b = true then te σ2 H3 Nx else E H3)
    (q : ∀ D H', H D = none → Same H H' → H' D = some (.lst (((xs.zip rs).filter fun p => kp p.2).map fun p => f p.1 p.2)) → Q (.ref D) H') : tLc (iTup K tl) g tt te vs σ H Q := by
  have hln := Paired.len hr
  refine hl _ ⟨a, rfl, ⟨_, SqT.of hs⟩, fun D hD => ?_⟩
  refine lc_tup (K := K) (a := a) (xs := xs) (fun i H' => Same H H' ∧ H' D = some (.lst ((((xs.zip rs).take i).filter fun p => kp p.2).map fun p => f p.1 p.2))) ⟨same_upd hD, upd_same⟩ (fun i H' _ h => SqT.of (h.1 _ _ hs)) ?_ ?_
  · rintro i x H' hx ⟨s, e⟩
    obtain ⟨r, er, hxr⟩ := Paired.get1 hr hx
    have ez : (xs.zip rs)[i]? = some (x, r) := by rw [List.getElem?_zip_eq_some]; exact ⟨hx, er⟩
    refine he x r H' _ _ (List.mem_of_getElem? er) s (hxr.same s) (fun hk H'' s2 => ?_) (fun hk H'' s2 => ?_)
    · refine ⟨_, s2 _ _ e, ?_, ?_, ?_⟩
      · have h1 := List.length_filter_le (fun p : V × List Int => kp p.2) ((xs.zip rs).take i)
        rw [List.length_map]
        have h2 : ((xs.zip rs).take i).length ≤ xs.length := by rw [List.length_take, List.length_zip]; omega
        exact sz4' (by
          have : i < xs.length := (List.getElem?_eq_some_iff.mp hx).1
          have : ((xs.zip rs).take i).length ≤ i := by rw [List.length_take]; omega
          omega)
      · intro b o eb
        rw [upd_ne (ne_of_none eb hD)]
        exact s2 _ _ (s _ _ eb)
      · rw [upd_same, List.take_add_one, ez, List.filter_append, List.map_append]
        simp [hk]
    · refine ⟨s.trans s2, ?_⟩
      rw [List.take_add_one, ez, List.filter_append, List.map_append]
      simp [hk, s2 _ _ e]
  · rintro H' ⟨s, e⟩
    rw [List.take_of_length_le (by rw [List.length_zip]; omega)] at e
    exact q D H' hD s e
theorem zsnd {α β γ : Type} (f : β → γ) : ∀ (xs : List α) (ys : List β), xs.length = ys.length → (xs.zip ys).map (fun p => f p.2) = ys.map f
  | [], [], _ => rfl
  | _ :: xs, _ :: ys, h => by
    rw [List.zip_cons_cons, List.map_cons, List.map_cons, zsnd f xs ys (Nat.succ.inj h)]
theorem zflen {α β : Type} (kp : β → Bool) : ∀ (xs : List α) (ys : List β), xs.length = ys.length → ((xs.zip ys).filter fun p => kp p.2).length = (ys.filter kp).length
  | [], [], _ => rfl
  | _ :: xs, y :: ys, h => by
    rw [List.zip_cons_cons, List.filter_cons, List.filter_cons]
    cases e : kp y <;> simp [zflen kp xs ys (Nat.succ.inj h)]
theorem ftrue {α : Type} (l : List α) : l.filter (fun _ => true) = l := List.filter_eq_self.mpr fun _ _ => rfl
def hat (hs : List Int) (i : Int) : Int := hs.getD i.toNat 0
def kb (hs r : List Int) : Bool := decide (r.getD 2 0 ≤ hat hs (r.getD 1 0) - hat hs (r.getD 0 0))
def ct (hs r : List Int) : Int := r.getD 3 0 * (if hat hs (r.getD 1 0) - hat hs (r.getD 0 0) - r.getD 2 0 < 0 then -(hat hs (r.getD 1 0) - hat hs (r.getD 0 0) - r.getD 2 0) else hat hs (r.getD 1 0) - hat hs (r.getD 0 0) - r.getD 2 0)
theorem rep_map (n : Nat) (k : Int) (h : k = (n : Int)) : (List.replicate k.toNat [V.int 0]).flatten = (List.replicate n (0 : Int)).map V.int := by
  subst h
  rw [Int.toNat_natCast]
  induction n with
  | zero => rfl
  | succ n ih => rw [List.replicate_succ, List.flatten_cons, ih, List.replicate_succ, List.map_cons]; rfl
def spKeeps : Sp := fun vs H Q _ => ∃ (v : V) (t : Addr) (n : Nat) (bs ps : List (List Int)) (hs : List Int), vs = [v, .ref t] ∧ SysAt H v n bs ps ∧ OkB n bs ∧ bs.length ≤ 4000 ∧ H t = some (.tup (hs.map V.int)) ∧ hs.length = n ∧ ∀ H', Same H H' → Q (.bl (bs.all (kb hs))) H'
def spCost : Sp := fun vs H Q _ => ∃ (v : V) (t : Addr) (n : Nat) (bs ps : List (List Int)) (hs : List Int), vs = [v, .ref t] ∧ SysAt H v n bs ps ∧ OkP n ps ∧ ps.length ≤ 4000 ∧ H t = some (.tup (hs.map V.int)) ∧ hs.length = n ∧ ∀ H', Same H H' → Q (.int (ps.map (ct hs)).sum) H'
def spBroken : Sp := fun vs H Q _ => ∃ (v : V) (t : Addr) (n : Nat) (bs ps : List (List Int)) (hs : List Int), vs = [v, .ref t] ∧ SysAt H v n bs ps ∧ OkB n bs ∧ bs.length ≤ 4000 ∧ H t = some (.lst (hs.map V.int)) ∧ hs.length = n ∧ ∀ H', Same H H' → Q (.int ((bs.filter fun r => !kb hs r).length : Int)) H'
def spSpent : Sp := fun vs H Q _ => ∃ (v : V) (t : Addr) (n : Nat) (bs ps : List (List Int)) (hs : List Int), vs = [v, .ref t] ∧ SysAt H v n bs ps ∧ OkP n ps ∧ ps.length ≤ 4000 ∧ H t = some (.lst (hs.map V.int)) ∧ hs.length = n ∧ Q (.int (ps.map (ct hs)).sum) H
def spClimbed : Sp := fun vs H Q _ => ∃ (v : V) (t : Addr) (n : Nat) (bs ps : List (List Int)) (hs : List Int), vs = [v, .ref t] ∧ SysAt H v n bs ps ∧ OkB n bs ∧ bs.length ≤ 4000 ∧ n ≤ 1000 ∧ H t = some (.lst (hs.map V.int)) ∧ hs.length = n ∧
  ∀ H' r, Same H H' → (r = .non ∨ ∃ (u : Addr) (hs' : List Int), r = .ref u ∧ H' u = some (.tup (hs'.map V.int)) ∧ hs'.length = n) → Q r H'
def spSigned : Sp := fun vs H Q _ => ∃ (b c : Addr) (cs : List Int) (m : Int), vs = [.ref b, .int m] ∧ 0 < m ∧ m < 2 ^ 1000 ∧ BagAt b c cs H ∧ ∀ H' (r : Int), Off b H H' → BagAt b c cs H' → Q (.int r) H'
def spTall : Sp := fun vs H Q _ => ∃ (b c : Addr) (cs : List Int) (v : V) (n : Nat) (bs ps : List (List Int)), vs = [.ref b, v] ∧ SysAt H v n bs ps ∧ OkB n bs ∧ bs.length ≤ 4000 ∧ n ≤ 1000 ∧ BagAt b c cs H ∧ ∀ H' l (hs : List Int), Off b H H' → BagAt b c cs H' → H' l = some (.lst (hs.map V.int)) → hs.length = n → l ≠ b → Q (.ref l) H'
def spBeside : Sp := fun vs H Q _ => ∃ (b c : Addr) (cs : List Int) (t : Addr) (hs : List Int), vs = [.ref b, .ref t] ∧ H t = some (.lst (hs.map V.int)) ∧ t ≠ b ∧ hs.length ≤ 1000 ∧ BagAt b c cs H ∧ ∀ H' l (hs' : List Int), Off b H H' → BagAt b c cs H' → H' l = some (.lst (hs'.map V.int)) → hs'.length = hs.length → l ≠ b → Q (.ref l) H'
theorem at_hat {hs : List Int} {n : Nat} {i : Int} (hl : hs.length = n) (h0 : 0 ≤ i) (h1 : i < n) : atI (hs.map V.int) i = some (.int (hat hs i)) := at_ints h0 (by rw [List.length_map, hl]; exact h1)
theorem setm_int (hs : List Int) (j : Nat) (x : Int) : (hs.map V.int).set j (.int x) = (hs.set j x).map V.int := by rw [List.map_set]
theorem ints_of : ∀ {ys : List V}, (∀ y ∈ ys, ∃ i : Int, y = .int i) → ∃ hs : List Int, ys = hs.map V.int
  | [], _ => ⟨[], rfl⟩
  | y :: r, h => by
    obtain ⟨hs, rfl⟩ := ints_of fun y hy => h y (List.mem_cons_of_mem _ hy)
    obtain ⟨i, rfl⟩ := h y (List.mem_cons_self ..)
    exact ⟨i :: hs, rfl⟩
def rIsN : R2 := fun x y H Q => y = .non ∧ Q (.bl (decide (x = .non))) H
def rNotN : R2 := fun x y H Q => y = .non ∧ Q (.bl (!decide (x = .non))) H
theorem dIsN {X : Cx} : OpR X (compareOp .Is) rIsN := op_isN
theorem dNotN {X : Cx} : OpR X (compareOp .IsNot) rNotN := op_notN
theorem rv_isNn (q : Q (.bl true) H) : rIsN .non .non H Q := ⟨rfl, q⟩
theorem rv_isNr {a : Addr} (q : Q (.bl false) H) : rIsN (.ref a) .non H Q := ⟨rfl, q⟩
theorem rv_isNi {a : Int} (q : Q (.bl false) H) : rIsN (.int a) .non H Q := ⟨rfl, q⟩
theorem rv_notNn (q : Q (.bl false) H) : rNotN .non .non H Q := ⟨rfl, q⟩
theorem rv_notNr {a : Addr} (q : Q (.bl true) H) : rNotN (.ref a) .non H Q := ⟨rfl, q⟩
theorem rv_notNi {a : Int} (q : Q (.bl true) H) : rNotN (.int a) .non H Q := ⟨rfl, q⟩
end
end D0
namespace K36
open PySem PySem.Spec PyProof.Rows L2 D0
def topS (i : Nat) : Stmt := PySem.Challenge.pw_drawnlayers_k36_kept_and_cost.main.body.getD i (.Pass ⟨0, 0, 0, 0⟩)
abbrev s_keeps : Stmt := topS 1
theorem sc_keeps : FnScope ["system", "heights", "start", "end", "gap"] ["system", "heights"] (defScope s_keeps) := ⟨rfl, rfl, rfl, by decide +kernel, rfl, by decide +kernel, by decide +kernel⟩
abbrev s_cost : Stmt := topS 2
theorem sc_cost : FnScope ["system", "heights", "start", "end", "gap", "weight"] ["system", "heights"] (defScope s_cost) := ⟨rfl, rfl, rfl, by decide +kernel, rfl, by decide +kernel, by decide +kernel⟩
abbrev s_law_bag : Stmt := topS 4
theorem sc_law_bag : FnScope ["script", "cell"] ["script"] (defScope s_law_bag) := ⟨rfl, rfl, rfl, by decide +kernel, rfl, by decide +kernel, by decide +kernel⟩
abbrev s_law_draw : Stmt := topS 5
theorem sc_law_draw : FnScope ["bag", "many", "cell", "drawn", "first", "second", "third"] ["bag", "many"] (defScope s_law_draw) := ⟨rfl, rfl, rfl, by decide +kernel, rfl, by decide +kernel, by decide +kernel⟩
abbrev s_law_whole : Stmt := topS 6
theorem sc_law_whole : FnScope ["got"] ["got"] (defScope s_law_whole) := ⟨rfl, rfl, rfl, by decide +kernel, rfl, by decide +kernel, by decide +kernel⟩
abbrev s_law_gap : Stmt := topS 7
theorem sc_law_gap : FnScope ["bag"] ["bag"] (defScope s_law_gap) := ⟨rfl, rfl, rfl, by decide +kernel, rfl, by decide +kernel, by decide +kernel⟩
abbrev s_law_ends : Stmt := topS 8
theorem sc_law_ends : FnScope ["bag", "count", "start"] ["bag", "count"] (defScope s_law_ends) := ⟨rfl, rfl, rfl, by decide +kernel, rfl, by decide +kernel, by decide +kernel⟩
abbrev s_law_doubled : Stmt := topS 9
theorem sc_law_doubled : FnScope ["bag", "rows"] ["bag", "rows"] (defScope s_law_doubled) := ⟨rfl, rfl, rfl, by decide +kernel, rfl, by decide +kernel, by decide +kernel⟩
abbrev s_law_any_system : Stmt := topS 10
theorem sc_law_any_system : FnScope ["bag", "most", "count", "rows", "wild", "stretch", "hidden", "x", "bounds", "k", "ends", "gap", "less", "pulls", "bounds_told", "heavy"] ["bag", "most"] (defScope s_law_any_system) := ⟨rfl, rfl, rfl, by decide +kernel, rfl, by decide +kernel, by decide +kernel⟩
abbrev s_law_climbed : Stmt := topS 11
theorem sc_law_climbed : FnScope ["system", "begin", "heights", "turn", "changed", "b"] ["system", "begin"] (defScope s_law_climbed) := ⟨rfl, rfl, rfl, by decide +kernel, rfl, by decide +kernel, by decide +kernel⟩
abbrev s_law_signed : Stmt := topS 12
theorem sc_law_signed : FnScope ["bag", "many", "far"] ["bag", "many"] (defScope s_law_signed) := ⟨rfl, rfl, rfl, by decide +kernel, rfl, by decide +kernel, by decide +kernel⟩
abbrev s_law_tall : Stmt := topS 13
theorem sc_law_tall : FnScope ["bag", "system", "way_of", "x", "lowest", "tall", "change", "shift", "one"] ["bag", "system"] (defScope s_law_tall) := ⟨rfl, rfl, rfl, by decide +kernel, rfl, by decide +kernel, by decide +kernel⟩
abbrev s_law_beside : Stmt := topS 14
theorem sc_law_beside : FnScope ["bag", "tall", "near", "x"] ["bag", "tall"] (defScope s_law_beside) := ⟨rfl, rfl, rfl, by decide +kernel, rfl, by decide +kernel, by decide +kernel⟩
abbrev s_law_broken : Stmt := topS 15
theorem sc_law_broken : FnScope ["system", "tall", "b"] ["system", "tall"] (defScope s_law_broken) := ⟨rfl, rfl, rfl, by decide +kernel, rfl, by decide +kernel, by decide +kernel⟩
abbrev s_law_spent : Stmt := topS 16
theorem sc_law_spent : FnScope ["system", "tall", "total", "p", "here", "wanted"] ["system", "tall"] (defScope s_law_spent) := ⟨rfl, rfl, rfl, by decide +kernel, rfl, by decide +kernel, by decide +kernel⟩
abbrev s_law : Stmt := topS 17
theorem sc_law : FnScope ["script", "bag", "system", "tall", "near", "heights", "told", "spent"] ["script"] (defScope s_law) := ⟨rfl, rfl, rfl, by decide +kernel, rfl, by decide +kernel, by decide +kernel⟩
structure Txt (K : PySem.W.Frag) (mg : Str → Option Value) where
  f_keeps : Addr
  fd_keeps : FuncData
  F_keeps : Fun K "keeps" "keeps" s_keeps f_keeps fd_keeps
  g_keeps : mg "keeps" = some (.ref f_keeps)
  b_keeps : Binds K fd_keeps ["system", "heights"] []
  f_cost : Addr
  fd_cost : FuncData
  F_cost : Fun K "cost" "cost" s_cost f_cost fd_cost
  g_cost : mg "cost" = some (.ref f_cost)
  b_cost : Binds K fd_cost ["system", "heights"] []
  f_law_bag : Addr
  fd_law_bag : FuncData
  F_law_bag : Fun K "_law_bag" "_law_bag" s_law_bag f_law_bag fd_law_bag
  g_law_bag : mg "_law_bag" = some (.ref f_law_bag)
  b_law_bag : Binds K fd_law_bag ["script"] []
  f_law_draw : Addr
  fd_law_draw : FuncData
  F_law_draw : Fun K "_law_draw" "_law_draw" s_law_draw f_law_draw fd_law_draw
  g_law_draw : mg "_law_draw" = some (.ref f_law_draw)
  b_law_draw : Binds K fd_law_draw ["bag", "many"] []
  f_law_whole : Addr
  fd_law_whole : FuncData
  F_law_whole : Fun K "_law_whole" "_law_whole" s_law_whole f_law_whole fd_law_whole
  g_law_whole : mg "_law_whole" = some (.ref f_law_whole)
  b_law_whole : Binds K fd_law_whole ["got"] []
  f_law_gap : Addr
  fd_law_gap : FuncData
  F_law_gap : Fun K "_law_gap" "_law_gap" s_law_gap f_law_gap fd_law_gap
  g_law_gap : mg "_law_gap" = some (.ref f_law_gap)
  b_law_gap : Binds K fd_law_gap ["bag"] []
  f_law_ends : Addr
  fd_law_ends : FuncData
  F_law_ends : Fun K "_law_ends" "_law_ends" s_law_ends f_law_ends fd_law_ends
  g_law_ends : mg "_law_ends" = some (.ref f_law_ends)
  b_law_ends : Binds K fd_law_ends ["bag", "count"] []
  f_law_doubled : Addr
  fd_law_doubled : FuncData
  F_law_doubled : Fun K "_law_doubled" "_law_doubled" s_law_doubled f_law_doubled fd_law_doubled
  g_law_doubled : mg "_law_doubled" = some (.ref f_law_doubled)
  b_law_doubled : Binds K fd_law_doubled ["bag", "rows"] []
  f_law_any_system : Addr
  fd_law_any_system : FuncData
  F_law_any_system : Fun K "_law_any_system" "_law_any_system" s_law_any_system f_law_any_system fd_law_any_system
  g_law_any_system : mg "_law_any_system" = some (.ref f_law_any_system)
  b_law_any_system : Binds K fd_law_any_system ["bag", "most"] []
  f_law_climbed : Addr
  fd_law_climbed : FuncData
  F_law_climbed : Fun K "_law_climbed" "_law_climbed" s_law_climbed f_law_climbed fd_law_climbed
  g_law_climbed : mg "_law_climbed" = some (.ref f_law_climbed)
  b_law_climbed : Binds K fd_law_climbed ["system", "begin"] []
  f_law_signed : Addr
  fd_law_signed : FuncData
  F_law_signed : Fun K "_law_signed" "_law_signed" s_law_signed f_law_signed fd_law_signed
  g_law_signed : mg "_law_signed" = some (.ref f_law_signed)
  b_law_signed : Binds K fd_law_signed ["bag", "many"] []
  f_law_tall : Addr
  fd_law_tall : FuncData
  F_law_tall : Fun K "_law_tall" "_law_tall" s_law_tall f_law_tall fd_law_tall
  g_law_tall : mg "_law_tall" = some (.ref f_law_tall)
  b_law_tall : Binds K fd_law_tall ["bag", "system"] []
  f_law_beside : Addr
  fd_law_beside : FuncData
  F_law_beside : Fun K "_law_beside" "_law_beside" s_law_beside f_law_beside fd_law_beside
  g_law_beside : mg "_law_beside" = some (.ref f_law_beside)
  b_law_beside : Binds K fd_law_beside ["bag", "tall"] []
  f_law_broken : Addr
  fd_law_broken : FuncData
  F_law_broken : Fun K "_law_broken" "_law_broken" s_law_broken f_law_broken fd_law_broken
  g_law_broken : mg "_law_broken" = some (.ref f_law_broken)
  b_law_broken : Binds K fd_law_broken ["system", "tall"] []
  f_law_spent : Addr
  fd_law_spent : FuncData
  F_law_spent : Fun K "_law_spent" "_law_spent" s_law_spent f_law_spent fd_law_spent
  g_law_spent : mg "_law_spent" = some (.ref f_law_spent)
  b_law_spent : Binds K fd_law_spent ["system", "tall"] []
  n_abs : mg "abs" = none
  n_all : mg "all" = none
  n_bool : mg "bool" = none
  n_int : mg "int" = none
  n_isinstance : mg "isinstance" = none
  n_len : mg "len" = none
  n_list : mg "list" = none
  n_max : mg "max" = none
  n_min : mg "min" = none
  n_range : mg "range" = none
  n_sum : mg "sum" = none
  n_tuple : mg "tuple" = none
local macro_rules | `(tactic| walk_at "neB") => `(tactic| with_reducible first | assumption | (apply Ne.symm; assumption) | (refine' BagAt.ne ?x ?h; (case h => assumption); (case x => assumption)))
local macro_rules | `(tactic| walk_at "hq") => `(tactic| with_reducible first | assumption | exact upd_same | ((first | refine hp_new (by assumption) ?_ | (refine' Off.get ?f ?ne ?hp; (case f => assumption); (case ne => walk_at "neB"))); walk_at "hq"))
local macro_rules | `(tactic| walk_at "neA") => `(tactic| with_reducible first | (refine' BagAt.ne ?x ?h; (case h => assumption); (case x => assumption)) | (refine' ne_of_none ?x ?h; (case h => assumption); (case x => walk_at "hq")))
local macro_rules | `(tactic| walk_at "ne") => `(tactic| with_reducible first | assumption | (apply Ne.symm; assumption) | walk_at "neA" | (apply Ne.symm; walk_at "neA"))
local macro_rules | `(tactic| walk_at "off") => `(tactic| with_reducible repeat' (first | assumption | exact Off.refl _ _ | apply Off.set | (refine' Off.new ?_ ?h; (case h => assumption)) | (refine' Off.trans ?_ ?f; (case f => assumption))))
local macro_rules | `(tactic| walk_at "hp") => `(tactic| with_reducible first | assumption | exact upd_same | ((first | refine hp_new (by assumption) ?_ | (refine hp_set ?ne ?hp; (case ne => walk_at "ne")) | (refine' Off.get ?f ?ne ?hp; (case f => assumption); (case ne => walk_at "ne"))); walk_at "hp"))
local macro_rules | `(tactic| walk_at "sq") => `(tactic| with_reducible first | assumption | exact SqL.of (by walk_at "hp") | ((first | refine sq_new (by assumption) ?_ | (refine sq_set ?ne ?sq; (case ne => walk_at "ne")) | (refine' Off.seq ?f ?ne ?sq; (case f => assumption); (case ne => walk_at "ne"))); walk_at "sq"))
local macro_rules | `(tactic| walk_at "sqt") => `(tactic| with_reducible first | assumption | exact SqT.of (by walk_at "hp"))
/- straight-line steps of a reading -/
local macro_rules | `(tactic| walk_at "at") => `(tactic| first | assumption | rfl | exact at_ints (by omega) (by omega))
local macro_rules | `(tactic| walk_at "sz") => `(tactic| first | assumption | decide | exact sz4 (by omega) | exact sz4' (by omega) | (simp only [List.length_map, List.length_append, List.length_cons, List.length_nil]; first | exact sz4 (by omega) | exact sz4' (by omega) | omega))
local macro_rules | `(tactic| walk_at "mul") => `(tactic| first | exact .inr ⟨by decide, by decide⟩ | exact mul_fm (by decide) (by decide) | exact .inl ⟨by omega, by omega⟩ | exact .inr ⟨by omega, by omega⟩)
local macro_rules | `(tactic| walk_at "div") => `(tactic| with_reducible first | exact div97 | exact div3 | exact div2 | exact div_m (by assumption) (by assumption))
local macro_rules | `(tactic| walk_at "nz") => `(tactic| first | decide | omega)
local macro_rules | `(tactic| walk_at "rd") => `(tactic| repeat' walk_at "rd1")
local macro_rules | `(tactic| walk_at "rdA") => `(tactic| with_reducible first
  | refine rd_op ?_
  | refine rd_c ?_
  | refine rd_cb ?_
  | refine rd_cons ?_
  | refine rd_nil ?_
  | refine rd_bl ?_
  | refine rd_ii ?_
  | refine rd_M1 ?_
  | refine rd_M0 ?_
  | refine rd_isS ?_
  | refine rd_test ?_
  | refine rd_B ?_
  | refine rd_and ?_
  | refine rd_or ?_
  | refine rd_not ?_
  | refine rd_andV ?_
  | refine rd_orV ?_
  | refine rd_notV ?_
  | refine rd_ifE ?_
  | refine rd_chain ?_
  | refine rd_seq ?_
  | refine rd_if ?_
  | refine rd_asg ?_
  | refine rd_gname ?_
  | refine rd_gsub ?_
  | refine rd_drop ?_
  | refine rd_ret ?_
  | refine rd_retN ?_
  | refine rd_brk ?_
  | refine rd_cnt ?_
  | refine rd_next ?_
  | refine rd_tup ?_
  | refine rd_lst ?_
  | refine rd_BM ?_
  | refine rd_gcons ?_
  | refine rd_gnil ?_
  | refine rd_sl ?_
  | refine rd_nopart ?_
  | refine rd_part ?_
  | refine rd_un ?_
  | refine rd_call ?_
  | refine rd_callN ?_
  | refine rd_yes ?_
  | refine rd_iList ?_
  | refine rd_iTup ?_
  | refine rd_for ?_
  | refine rd_rng1 ?_
  | refine rd_revL ?_
  | refine rv_addI ?_
  | refine rv_sub ?_
  | refine rv_lt ?_
  | refine rv_le ?_
  | refine rv_gt ?_
  | refine rv_ge ?_
  | refine rv_eqI ?_
  | refine rv_neI ?_
  | refine rv_eqS ?_
  | refine rv_eqB ?_
  | refine rv_neS ?_
  | refine rv_neB ?_
  | refine rv_int ?_
  | refine rv_inS ?_
  | refine rv_isNn ?_
  | refine rv_isNr ?_
  | refine rv_isNi ?_
  | refine rv_notNn ?_
  | refine rv_notNr ?_
  | refine rv_notNi ?_
  | refine rv_ninS ?_
  | refine rv_abs ?_
  | refine rv_max2 ?_
  | refine rv_min2 ?_
  | refine rv_ord ?_
  | refine rv_neg ?_
  | refine iteT ?_
  | refine iteF ?_
  | refine iteD (fun h => ?_) (fun h => ?_)
  | refine iteND (fun h => ?_) (fun h => ?_))
local macro_rules | `(tactic| walk_at "rd1") => `(tactic| first
  | ((with_reducible refine' rd_andB ?h ?_); (case h => (intro Qe hq; walk_at "rd"; exact hq)))
  | ((with_reducible refine' rd_orB ?h ?_); (case h => (intro Qe hq; walk_at "rd"; exact hq)))
  | walk_at "rdA"
  | ((with_reducible refine' rd_var ?h ?_); (case h => rfl))
  | ((with_reducible refine' rd_wipe ?h ?_); (case h => rfl))
  | ((with_reducible refine' rv_ixL ?h ?c ?_); (case h => walk_at "sq"); (case c => walk_at "at"))
  | ((with_reducible refine' rv_ixS ?h ?c ?_); (case h => walk_at "sz"); (case c => walk_at "at"))
  | ((with_reducible refine' rv_setL ?h ?c ?_); (case h => walk_at "hp"); (case c => rfl))
  | ((with_reducible refine' rv_mulI ?h ?_); (case h => walk_at "mul"))
  | ((with_reducible refine' rv_mod ?h ?_); (case h => walk_at "nz"))
  | ((with_reducible refine' rv_div ?h ?_); (case h => walk_at "div"))
  | ((with_reducible refine' rv_pow ?h ?_); (case h => exact ⟨by decide, by decide, by decide⟩))
  | ((with_reducible refine' rv_lenL ?h ?_); (case h => walk_at "sq"))
  | ((with_reducible refine' rv_lenS ?h ?_); (case h => walk_at "sz"))
  | ((with_reducible refine' rv_addS ?h ?_); (case h => walk_at "sz"))
  | ((with_reducible refine' rd_tyL ?h ?_); (case h => walk_at "sq"))
  | (with_reducible refine rd_tyS ?_)
  | ((with_reducible refine' rv_inL ?h ?hx ?hf ?_); (case h => walk_at "sq"); (case hx => rfl); (case hf => rfl))
  | ((with_reducible refine' rv_ninL ?h ?hx ?hf ?_); (case h => walk_at "sq"); (case hx => rfl); (case hf => rfl))
  | ((with_reducible refine' rv_all ?h ?_); (case h => walk_at "sq"))
  | ((with_reducible refine' rv_addL ?h1 ?h2 ?h3 (fun p hp => ?_)); (case h1 => walk_at "hp"); (case h2 => walk_at "hp"); (case h3 => walk_at "sz"))
  | (with_reducible refine iteB (fun h => ?_) (fun h => ?_))
  | (refine ⟨rfl, rfl, ?_⟩)
  | ((with_reducible refine' rv_up ?h ?_); (case h => omega))
  | ((with_reducible refine' rv_iL ?h ?_); (case h => walk_at "sq"))
  | ((with_reducible refine' rv_iT ?h ?_); (case h => walk_at "sqt"))
  | ((with_reducible refine' rv_listL ?h (fun p hp => ?_)); (case h => walk_at "sq"))
  | ((with_reducible refine' rv_listT ?h (fun p hp => ?_)); (case h => walk_at "sqt"))
  | ((with_reducible refine' rv_tupL ?h (fun p hp => ?_)); (case h => walk_at "sq"))
  | ((with_reducible refine' rv_tupT ?h ?_); (case h => walk_at "sqt"))
  | ((with_reducible refine' rv_ixT ?h ?c ?_); (case h => walk_at "sqt"); (case c => walk_at "at"))
  | ((with_reducible refine' rd_gtup ?h ?c ?_); (case h => walk_at "sqt"); (case c => rfl))
  | ((with_reducible refine' rv_lenT ?h ?_); (case h => walk_at "sqt"))
  | ((with_reducible refine' rv_isiB ?h ?_); (case h => with_reducible first | exact isi_bool_bool | exact isi_bool_int | exact isi_bool_str | exact isi_bool_list | exact isi_bool_tuple | exact isi_bool_dict))
  | ((with_reducible refine' rv_isiI ?h ?_); (case h => with_reducible first | exact isi_int_bool | exact isi_int_int | exact isi_int_str | exact isi_int_list | exact isi_int_tuple | exact isi_int_dict))
  | ((with_reducible refine' rv_isiS ?h ?_); (case h => with_reducible first | exact isi_str_bool | exact isi_str_int | exact isi_str_str | exact isi_str_list | exact isi_str_tuple | exact isi_str_dict))
  | ((with_reducible refine' rv_isiN ?h ?_); (case h => with_reducible first | exact isi_NoneType_bool | exact isi_NoneType_int | exact isi_NoneType_str | exact isi_NoneType_list | exact isi_NoneType_tuple | exact isi_NoneType_dict))
  | ((with_reducible refine' rv_isiL ?e ?h ?_); (case e => walk_at "hp"); (case h => with_reducible first | exact isi_list_bool | exact isi_list_int | exact isi_list_str | exact isi_list_list | exact isi_list_tuple | exact isi_list_dict))
  | ((with_reducible refine' rv_isiT ?e ?h ?_); (case e => walk_at "hp"); (case h => with_reducible first | exact isi_tuple_bool | exact isi_tuple_int | exact isi_tuple_str | exact isi_tuple_list | exact isi_tuple_tuple | exact isi_tuple_dict))
  | ((with_reducible refine' rv_revL ?h ?_); (case h => walk_at "sq"))
  | (refine fun (p : Addr) (hp : _ = none) => ?_)
  | ((with_reducible refine' rv_slL ?h (fun p hp => ?_)); (case h => walk_at "sq"))
  | ((with_reducible refine' rv_slS ?h ?_); (case h => walk_at "sz"))
  | ((with_reducible refine' rv_ext ?h ?h2 ?c ?_); (case h => walk_at "hp"); (case h2 => walk_at "hp"); (case c => walk_at "sz"))
  | (refine ⟨(by simp only [List.length_cons, List.length_nil]; decide), fun p hp => ?_⟩)
  | ((with_reducible refine' rv_app ?h ?c ?_); (case h => walk_at "hp"); (case c => walk_at "sz"))
  )
local macro_rules | `(tactic| walk_at "bag") => `(tactic| first | assumption | exact ⟨_, _, _, _, _, upd_same, (by assumption), (by walk_at "hp"), (by omega), (by omega)⟩ | exact ⟨_, _, _, _, _, (by assumption), (by assumption), (by assumption), (by assumption), (by assumption)⟩ | (refine BagAt.new ?_ (by assumption); walk_at "bag") | (refine BagAt.put ?_ (by assumption) (by assumption); walk_at "bag"))

section
variable {P : Program} {w : World} {K : PySem.W.Frag} {mg : Str → Option Value} {base : Heap}
--! _law_draw cut1 yes
theorem ok_law_draw (T : Txt K mg) : FnOk P w K mg base CX0 1 T.f_law_draw T.fd_law_draw ["bag", "many"] spDraw := by
  refine T.F_law_draw.ok sc_law_draw (fun vs H Q E h => ?_) (fun cdv A outer s H vs Q E hr h => ?_)
  · obtain ⟨b, c, cs, m, rfl, _⟩ := h
    rfl
  · obtain ⟨b, c, cs, m, rfl, hm, hm9, B, q⟩ := h
    have p18 : (0 : Int) ≤ 10 ^ Int.toNat 18 := by decide
    refine ⟨_, (C8.pss_cut (ps_if (PW.pt (pw_and (pt_cmpR dEq (pe_ix (dIx K) (pv 0) pe_int (fun _ _ => rfl)) pe_int (nomark _)) (pw_and (pt_cmpR dEq (pe_ix (dIx K) (pv 0) pe_int (fun _ _ => rfl)) pe_int (nomark _)) (pw_and1 (pt_cmpR dLt (pe_ix (dIx K) (pv 0) pe_int (fun _ _ => rfl)) (pe_callB (dLen K) (by rfl) T.n_len (by decide +kernel) (pa_cons (pe_ix (dIx K) (pv 0) pe_int (fun _ _ => rfl)) pa_nil)) (nomark _))))))
    (pss_cons (ps_set (i := 2) sc_law_draw.nd rfl (by first | exact Or.inl rfl | exact Or.inr rfl) (pe_ix (dIx K) (pe_ix (dIx K) (pv 0) pe_int (fun _ _ => rfl)) (pe_ix (dIx K) (pv 0) pe_int (fun _ _ => rfl)) (fun _ _ => rfl)))
    (pss_cons (ps_asg (pe_op (dAdd K) (pe_ix (dIx K) (pv 0) pe_int (fun _ _ => rfl)) pe_int) (pg_sub (pv 0) pe_int set_list))
    (pss_one (ps_if (pt_cmpR dGe (pv 2) (pe_op dPow pe_int pe_int) (nomark _))
     (pss_one (ps_asg (pv 2) (pg_sub (pv 0) pe_int set_list)))
     (pss_cons (ps_asg (pe_op dMod (pe_callTy dInt (by rfl) T.n_int (by decide +kernel) (pa_cons (pe_op (dAdd K) (pe_op dMul (pe_ix (dIx K) (pv 0) pe_int (fun _ _ => rfl)) pe_int) (pv 2)) pa_nil)) pe_int) (pg_sub (pv 0) pe_int set_list))
     (pss_one (ps_asg pe_int (pg_sub (pv 0) pe_int set_list))))))))
    pss_nil)
   (pss_cons (ps_if (pt_cmpR dGt (pe_ix (dIx K) (pv 0) pe_int (fun _ _ => rfl)) pe_int (nomark _))
    (pss_cons (ps_set (i := 3) sc_law_draw.nd rfl (by first | exact Or.inl rfl | exact Or.inr rfl) (pe_op dMod (pe_callTy dInt (by rfl) T.n_int (by decide +kernel) (pa_cons (pe_ix (dIx K) (pv 0) pe_int (fun _ _ => rfl)) pa_nil)) (pv 1)))
    (pss_cons (ps_asg (pe_op dDiv (pe_ix (dIx K) (pv 0) pe_int (fun _ _ => rfl)) (pv 1)) (pg_sub (pv 0) pe_int set_list))
    (pss_one (ps_ret (pv 3)))))
    pss_nil)
   (pss_cons (ps_asg (pe_op (dAdd K) (pe_ix (dIx K) (pv 0) pe_int (fun _ _ => rfl)) pe_int) (pg_sub (pv 0) pe_int set_list))
   (pss_cons (ps_if (pt_cmpR dGt (pe_ix (dIx K) (pv 0) pe_int (fun _ _ => rfl)) pe_int (nomark _))
    (pss_one (ps_asg (pe_op dSub (pe_ix (dIx K) (pv 0) pe_int (fun _ _ => rfl)) pe_int) (pg_sub (pv 0) pe_int set_list)))
    pss_nil)
   (pss_cons (ps_set (i := 4) sc_law_draw.nd rfl (by first | exact Or.inl rfl | exact Or.inr rfl) (pe_op dMod (pe_callTy dInt (by rfl) T.n_int (by decide +kernel) (pa_cons (pe_op (dAdd K) (pe_op (dAdd K) (pe_op dMul (pe_ix (dIx K) (pv 0) pe_int (fun _ _ => rfl)) pe_int) (pe_op dMul (pe_ix (dIx K) (pv 0) pe_int (fun _ _ => rfl)) pe_int)) pe_int) pa_nil)) pe_int))
   (pss_cons (ps_set (i := 5) sc_law_draw.nd rfl (by first | exact Or.inl rfl | exact Or.inr rfl) (pe_op dMod (pe_callTy dInt (by rfl) T.n_int (by decide +kernel) (pa_cons (pe_op (dAdd K) (pe_op (dAdd K) (pe_op dMul (pv 4) (pv 4)) (pe_op dMul (pe_ix (dIx K) (pv 0) pe_int (fun _ _ => rfl)) pe_int)) pe_int) pa_nil)) pe_int))
   (pss_cons (ps_set (i := 6) sc_law_draw.nd rfl (by first | exact Or.inl rfl | exact Or.inr rfl) (pe_op dMod (pe_callTy dInt (by rfl) T.n_int (by decide +kernel) (pa_cons (pe_op (dAdd K) (pe_op dMul (pv 5) (pv 5)) (pe_op dDiv (pv 5) pe_int)) pa_nil)) pe_int))
   (pss_one (ps_ret (pe_op dMod (pe_callTy dInt (by rfl) T.n_int (by decide +kernel) (pa_cons (pe_op dDiv (pv 6) pe_int) pa_nil)) (pv 1))))))))))), ?_⟩
    refine ⟨fun σ H' => ∃ x, σ = [some (.ref b), some (.int m), x, none, none, none, none] ∧ Off b H H' ∧ BagAt b c cs H', ?_, ?_⟩
    · obtain ⟨i, z, s, n, k, hb, ncb, hc, hi, hz⟩ := id B
      walk_at "rd"
      all_goals exact ⟨_, rfl, by walk_at "off", by walk_at "bag"⟩
    · rintro σ H1 ⟨x, rfl, f1, i, z, s, n, k, hb, ncb, hc, hi, hz⟩
      have zdiv : 0 ≤ z / m := Int.ediv_nonneg hz (by omega)
      walk_at "rd"
      all_goals exact q _ _ (by walk_at "off") (by walk_at "bag") (fm0 hm) (fm1 hm)
theorem ok_law_bag (T : Txt K mg) : FnOk P w K mg base CX0 1 T.f_law_bag T.fd_law_bag ["script"] (spBag K) := by
  refine T.F_law_bag.ok sc_law_bag (fun vs H Q E h => ?_) (fun cdv A outer s H vs Q E hr h => ?_)
  · obtain ⟨a, ns, rfl, _⟩ := h
    rfl
  · obtain ⟨a, ns, rfl, hS, hl, q⟩ := h
    refine ⟨_, (pss_one (ps_ret (pe_lst (pa_cons (pe_lc (own := [("cell", 1)]) (g := gName 1) (tt := tYes) rfl sc_law_bag.nd  (dpi_list K (pv 0)) (blkOk_by (own := [("cell", 1)]) (N := ["script", "cell"]) (sc := defScope s_law_bag) (by decide +kernel)) (fun _ _ _ _ _ => (pg_name (i := 1) sc_law_bag.nd rfl (by first | exact Or.inl rfl | exact Or.inr rfl))) (fun _ _ _ _ _ => pts_nil) (fun _ _ _ _ _ => (pe_callB dAbs (by rfl) T.n_abs (by decide +kernel) (pa_cons (pe_callTy dInt (by rfl) T.n_int (by decide +kernel) (pa_cons (pv 1) pa_nil)) pa_nil)))) (pa_cons pe_int (pa_cons pe_int (pa_cons pe_int (pa_cons pe_int (pa_cons pe_int pa_nil))))))))), ?_⟩
    walk_at "rd"
    refine lc_map (a := a) (xs := ns.map V.int) (fun x => match x with | .int i => .int (if i < 0 then -i else i) | _ => x) (fun Qe h => ?_) hS (by rw [List.length_map]; exact Nat.lt_of_le_of_lt hl (by decide)) (fun _ => rfl) ?_ ?_
    · walk_at "rd"; exact h
    · intro i x H' hx s1 Qe hq
      obtain ⟨n, rfl⟩ : ∃ n, x = V.int n := by
        obtain ⟨n, _, e⟩ := List.mem_map.mp (List.mem_of_getElem? hx)
        exact ⟨n, e.symm⟩
      walk_at "rd"
      exact hq _ fun _ _ e => e
    · intro D H1 hD s1 e1
      have e2 : List.map (fun x => match x with | .int i => .int (if i < 0 then -i else i) | _ => x) (ns.map V.int) = (ns.map fun i => if i < 0 then -i else i).map V.int := by
        rw [List.map_map, List.map_map]; rfl
      rw [e2] at e1
      walk_at "rd"
      rename_i p hp
      refine q _ _ D _ (s1.trans (same_upd hp)) (s1.free hp) ⟨_, _, _, _, _, upd_same, ne_of_none e1 hp, hp_new hp e1, by omega, by omega⟩
--! _law_any_system cut1 yes
--! _law_any_system cut3 yes
theorem ok_law_whole (T : Txt K mg) : FnOk P w K mg base CX0 1 T.f_law_whole T.fd_law_whole ["got"] spWhole := by
  refine T.F_law_whole.ok sc_law_whole (fun vs H Q E h => ?_) (fun cdv A outer s H vs Q E hr h => ?_)
  · obtain ⟨i, rfl, _⟩ := h
    rfl
  · obtain ⟨i, rfl, q⟩ := h
    refine ⟨_, (pss_one (ps_ret (pe_and (pe_callB (dIsi K) (by rfl) T.n_isinstance (by decide +kernel) (pa_cons (pv 0) (pa_cons (pe_bltn (v := .ty "int") (u := .type "int") (by rfl) T.n_int (by decide +kernel) rfl) pa_nil))) (pe_one (pe_not (pe_callB (dIsi K) (by rfl) T.n_isinstance (by decide +kernel) (pa_cons (pv 0) (pa_cons (pe_bltn (v := .ty "bool") (u := .type "bool") (by rfl) T.n_bool (by decide +kernel) rfl) pa_nil)))))))), ?_⟩
    walk_at "rd"
    exact q
theorem ok_law_gap (T : Txt K mg) : FnOk P w K mg base CX0 2 T.f_law_gap T.fd_law_gap ["bag"] spGap := by
  refine T.F_law_gap.ok sc_law_gap (fun vs H Q E h => ?_) (fun cdv A outer s H vs Q E hr h => ?_)
  · obtain ⟨b, c, cs, rfl, _⟩ := h
    rfl
  · obtain ⟨b, c, cs, rfl, B, q⟩ := h
    refine ⟨_, (pss_cons (ps_if (pt_cmpR dEq (pe_call (ok_law_draw T) (hr.mono (by decide)) (by rfl) T.g_law_draw T.F_law_draw.kp T.b_law_draw .nil pass0 (pa_cons (pv 0) (pa_cons pe_int pa_nil))) pe_int (nomark _))
    (pss_one (ps_ret (pe_op dSub (pe_call (ok_law_draw T) (hr.mono (by decide)) (by rfl) T.g_law_draw T.F_law_draw.kp T.b_law_draw .nil pass0 (pa_cons (pv 0) (pa_cons pe_int pa_nil))) pe_int)))
    pss_nil)
   (pss_one (ps_ret (pe_op dSub (pe_call (ok_law_draw T) (hr.mono (by decide)) (by rfl) T.g_law_draw T.F_law_draw.kp T.b_law_draw .nil pass0 (pa_cons (pv 0) (pa_cons pe_int pa_nil))) pe_int)))), ?_⟩
    walk_at "rd"
    refine ⟨b, c, cs, 8, rfl, by decide, by decide, B, fun H1 r f1 B1 r0 r1 => ?_⟩
    walk_at "rd"
    · refine ⟨b, c, cs, 2000001, rfl, by decide, by decide, B1, fun H2 r f2 B2 r0 r1 => ?_⟩
      walk_at "rd"
      exact q _ _ (f1.trans f2) B2 (by omega) (by omega)
    · refine ⟨b, c, cs, 9, rfl, by decide, by decide, B1, fun H2 r f2 B2 r0 r1 => ?_⟩
      walk_at "rd"
      exact q _ _ (f1.trans f2) B2 (by omega) (by omega)
theorem ok_law_ends (T : Txt K mg) : FnOk P w K mg base CX0 2 T.f_law_ends T.fd_law_ends ["bag", "count"] spEnds := by
  refine T.F_law_ends.ok sc_law_ends (fun vs H Q E h => ?_) (fun cdv A outer s H vs Q E hr h => ?_)
  · obtain ⟨b, c, cs, n, rfl, _⟩ := h
    rfl
  · obtain ⟨b, c, cs, n, rfl, n2, n3, B, q⟩ := h
    refine ⟨_, (pss_cons (ps_set (i := 2) sc_law_ends.nd rfl (by first | exact Or.inl rfl | exact Or.inr rfl) (pe_call (ok_law_draw T) (hr.mono (by decide)) (by rfl) T.g_law_draw T.F_law_draw.kp T.b_law_draw .nil pass0 (pa_cons (pv 0) (pa_cons (pv 1) pa_nil))))
   (pss_one (ps_ret (pe_tup (pa_cons (pv 2) (pa_cons (pe_op dMod (pe_callTy dInt (by rfl) T.n_int (by decide +kernel) (pa_cons (pe_op (dAdd K) (pe_op (dAdd K) (pv 2) pe_int) (pe_call (ok_law_draw T) (hr.mono (by decide)) (by rfl) T.g_law_draw T.F_law_draw.kp T.b_law_draw .nil pass0 (pa_cons (pv 0) (pa_cons (pe_op dSub (pv 1) pe_int) pa_nil)))) pa_nil)) (pv 1)) pa_nil)))))), ?_⟩
    walk_at "rd"
    refine ⟨b, c, cs, n, rfl, by omega, Int.lt_of_le_of_lt (show (n : Int) ≤ 10000 by omega) (by decide), B, fun H1 r f1 B1 r0 r1 => ?_⟩
    walk_at "rd"
    refine ⟨b, c, cs, _, rfl, by omega, Int.lt_of_le_of_lt (show (n : Int) - 1 ≤ 10000 by omega) (by decide), B1, fun H2 r' f2 B2 r0' r1' => ?_⟩
    walk_at "rd"
    rename_i p hp
    have e : (r + 1 + r').fmod (n : Int) = (if r + 1 + r' < n then r + 1 + r' else r + 1 + r' - n) := by
      rw [Int.fmod_eq_emod_of_nonneg _ (by omega)]
      split
      · exact Int.emod_eq_of_lt (by omega) (by omega)
      · rw [← Int.sub_emod_right]
        exact Int.emod_eq_of_lt (by omega) (by omega)
    refine q _ p r _ ((f1.trans f2).new hp) (B2.new hp) upd_same r0 r1 (by rw [e]; split <;> omega) (by rw [e]; split <;> omega) (by rw [e]; split <;> omega)
theorem ok_law_doubled (T : Txt K mg) : FnOk P w K mg base CX0 2 T.f_law_doubled T.fd_law_doubled ["bag", "rows"] spDoubled := by
  refine T.F_law_doubled.ok sc_law_doubled (fun vs H Q E h => ?_) (fun cdv A outer s H vs Q E hr h => ?_)
  · obtain ⟨b, c, cs, l, xs, rfl, _⟩ := h
    rfl
  · obtain ⟨b, c, cs, l, xs, rfl, B, el, lb, lc, hx, q⟩ := h
    refine ⟨_, (pss_cons (ps_if (PW.pt (pw_and (pt_chain dLt dLt pe_int (pe_callB (dLen K) (by rfl) T.n_len (by decide +kernel) (pa_cons (pv 1) pa_nil)) pe_int) (pw_and1 (pt_cmpR dEq (pe_call (ok_law_draw T) (hr.mono (by decide)) (by rfl) T.g_law_draw T.F_law_draw.kp T.b_law_draw .nil pass0 (pa_cons (pv 0) (pa_cons pe_int pa_nil))) pe_int (nomark _)))))
    (pss_one (ps_expr (pe_bm PySem.F.plainAttrs_list PySem.F.slot_list_append PySem.F.type_list_append mt_append (pv 1) (pa_cons (pe_ix (dIx K) (pv 1) (pe_call (ok_law_draw T) (hr.mono (by decide)) (by rfl) T.g_law_draw T.F_law_draw.kp T.b_law_draw .nil pass0 (pa_cons (pv 0) (pa_cons (pe_callB (dLen K) (by rfl) T.n_len (by decide +kernel) (pa_cons (pv 1) pa_nil)) pa_nil))) (fun _ _ => rfl)) pa_nil))))
    pss_nil)
   (pss_one (ps_ret (pe_callTy (dTuple K) (by rfl) T.n_tuple (by decide +kernel) (pa_cons (pv 1) pa_nil))))), ?_⟩
    walk_at "rd"
    · refine ⟨b, c, cs, 8, rfl, by decide, by decide, B, fun H1 r f1 B1 r0 r1 => ?_⟩
      have e1 := f1.get lb el
      walk_at "rd"
      · refine ⟨b, c, cs, _, rfl, by assumption, Int.lt_of_le_of_lt (show (xs.length : Int) ≤ 10000 by omega) (by decide), B1, fun H2 r f2 B2 r0 r1 => ?_⟩
        have e2 := f2.get lb e1
        obtain ⟨i, rfl⟩ := Int.eq_ofNat_of_zero_le r0
        have hi : i < xs.length := by omega
        have hy : atI xs (i : Int) = some xs[i] := atI_nat (List.getElem?_eq_getElem hi)
        walk_at "rd"
        rename_i p hp
        refine q _ p _ ((Off2.of_off (f1.trans f2)).mut.new hp) ((B2.put lb lc).new hp) ((((B.ts f1).trans (B1.ts f2)).put e2).new hp) upd_same (.inr ⟨i, _, List.getElem?_eq_getElem hi, rfl⟩)
      · rename_i p hp
        exact q _ p _ ((Off2.of_off f1).new hp) (B1.new hp) ((B.ts f1).new hp) upd_same (.inl rfl)
    · rename_i p hp
      exact q _ p _ ((Off2.of_off (Off.refl b H)).new hp) (B.new hp) ((TS.refl _).new hp) upd_same (.inl rfl)
    · rename_i p hp
      exact q _ p _ ((Off2.of_off (Off.refl b H)).new hp) (B.new hp) ((TS.refl _).new hp) upd_same (.inl rfl)
end
section
variable {P : Program} {w : World} {K : PySem.W.Frag} {mg : Str → Option Value} {base : Heap}
theorem ok_law_any_system (T : Txt K mg) : FnOk P w K mg base CX0 3 T.f_law_any_system T.fd_law_any_system ["bag", "most"] spSystem := by
  refine T.F_law_any_system.ok sc_law_any_system (fun vs H Q E h => ?_) (fun cdv A outer s H vs Q E hr h => ?_)
  · obtain ⟨b, c, cs, m, rfl, _⟩ := h
    rfl
  · obtain ⟨b, c, cs, m, rfl, hm, B, q⟩ := h
    refine ⟨_, (pss_cons (ps_set (i := 2) sc_law_any_system.nd rfl (by first | exact Or.inl rfl | exact Or.inr rfl) (pe_op (dAdd K) pe_int (pe_call (ok_law_draw T) (hr.mono (by decide)) (by rfl) T.g_law_draw T.F_law_draw.kp T.b_law_draw .nil pass0 (pa_cons (pv 0) (pa_cons pe_int pa_nil)))))
   (C8.pss_cut (ps_if (pt_cmpR dEq (pe_call (ok_law_draw T) (hr.mono (by decide)) (by rfl) T.g_law_draw T.F_law_draw.kp T.b_law_draw .nil pass0 (pa_cons (pv 0) (pa_cons pe_int pa_nil))) pe_int (nomark _))
    (pss_one (ps_set (i := 2) sc_law_any_system.nd rfl (by first | exact Or.inl rfl | exact Or.inr rfl) (pe_call (ok_law_draw T) (hr.mono (by decide)) (by rfl) T.g_law_draw T.F_law_draw.kp T.b_law_draw .nil pass0 (pa_cons (pv 0) (pa_cons (pe_op (dAdd K) (pv 1) pe_int) pa_nil)))))
    pss_nil)
   (pss_cons (ps_if (pt_cmpR dLt (pv 2) pe_int (nomark _))
    (pss_one (ps_ret (pe_tup (pa_cons (pv 2) (pa_cons (pe_tup pa_nil) (pa_cons (pe_tup pa_nil) pa_nil))))))
    pss_nil)
   (pss_cons (ps_set (i := 3) sc_law_any_system.nd rfl (by first | exact Or.inl rfl | exact Or.inr rfl) (pe_callB (dMax2 rfl) (by rfl) T.n_max (by decide +kernel) (pa_cons pe_int (pa_cons (pe_op dMul pe_int (pv 2)) pa_nil))))
   (C8.pss_cut (ps_if (pt_cmpR dEq (pe_call (ok_law_draw T) (hr.mono (by decide)) (by rfl) T.g_law_draw T.F_law_draw.kp T.b_law_draw .nil pass0 (pa_cons (pv 0) (pa_cons pe_int pa_nil))) pe_int (nomark _))
    (pss_one (ps_set (i := 3) sc_law_any_system.nd rfl (by first | exact Or.inl rfl | exact Or.inr rfl) pe_int))
    pss_nil)
   (pss_cons (ps_set (i := 4) sc_law_any_system.nd rfl (by first | exact Or.inl rfl | exact Or.inr rfl) (pe_cmpR dEq (pe_call (ok_law_draw T) (hr.mono (by decide)) (by rfl) T.g_law_draw T.F_law_draw.kp T.b_law_draw .nil pass0 (pa_cons (pv 0) (pa_cons pe_int pa_nil))) pe_int (nomark _)))
   (pss_cons (ps_set (i := 5) sc_law_any_system.nd rfl (by first | exact Or.inl rfl | exact Or.inr rfl) (pe_ix (dIx K) (pe_lst (pa_cons pe_int (pa_cons pe_int (pa_cons pe_int (pa_cons pe_int pa_nil))))) (pe_call (ok_law_draw T) (hr.mono (by decide)) (by rfl) T.g_law_draw T.F_law_draw.kp T.b_law_draw .nil pass0 (pa_cons (pv 0) (pa_cons pe_int pa_nil))) (fun _ _ => rfl)))
   (pss_cons (ps_setLc (i := 6) (own := [("x", 7)]) (g := gName 7) (tt := tYes) rfl sc_law_any_system.nd rfl rfl (sw_true rfl rfl rfl (by decide +kernel)) (pi_range1 rfl T.n_range (pa_cons (pv 2) pa_nil)) (blkOk_by (own := [("x", 7)]) (N := ["bag", "most", "count", "rows", "wild", "stretch", "hidden", "x", "bounds", "k", "ends", "gap", "less", "pulls", "bounds_told", "heavy"]) (sc := defScope s_law_any_system) (by decide +kernel)) (fun _ _ _ _ _ => (pg_name (i := 7) sc_law_any_system.nd rfl (by first | exact Or.inl rfl | exact Or.inr rfl))) (fun _ _ _ _ _ => pts_nil) (fun _ _ _ _ _ => (pe_op dMul (pv 5) (pe_call (ok_law_draw T) (hr.mono (by decide)) (by rfl) T.g_law_draw T.F_law_draw.kp T.b_law_draw .nil pass0 (pa_cons (pv 0) (pa_cons pe_int pa_nil))))))
   (pss_cons (ps_set (i := 8) sc_law_any_system.nd rfl (by first | exact Or.inl rfl | exact Or.inr rfl) (pe_lst pa_nil))
   (pss_cons (ps_for PassesOwn.never rfl (pi_range1 rfl T.n_range (pa_cons (pe_call (ok_law_draw T) (hr.mono (by decide)) (by rfl) T.g_law_draw T.F_law_draw.kp T.b_law_draw .nil pass0 (pa_cons (pv 0) (pa_cons (pv 3) pa_nil))) pa_nil)) (pg_name (i := 9) sc_law_any_system.nd rfl (by first | exact Or.inl rfl | exact Or.inr rfl))
    (pss_cons (ps_set (i := 10) sc_law_any_system.nd rfl (by first | exact Or.inl rfl | exact Or.inr rfl) (pe_call (ok_law_ends T) (hr.mono (by decide)) (by rfl) T.g_law_ends T.F_law_ends.kp T.b_law_ends .nil pass0 (pa_cons (pv 0) (pa_cons (pv 2) pa_nil))))
    (pss_cons (ps_set (i := 11) sc_law_any_system.nd rfl (by first | exact Or.inl rfl | exact Or.inr rfl) (pe_call (ok_law_gap T) (hr.mono (by decide)) (by rfl) T.g_law_gap T.F_law_gap.kp T.b_law_gap .nil pass0 (pa_cons (pv 0) pa_nil)))
    (pss_cons (ps_set (i := 12) sc_law_any_system.nd rfl (by first | exact Or.inl rfl | exact Or.inr rfl) (pe_ix (dIx K) (pe_lst (pa_cons pe_int (pa_cons pe_int (pa_cons pe_int (pa_cons (pe_callB dAbs (by rfl) T.n_abs (by decide +kernel) (pa_cons (pv 11) pa_nil)) pa_nil))))) (pe_call (ok_law_draw T) (hr.mono (by decide)) (by rfl) T.g_law_draw T.F_law_draw.kp T.b_law_draw .nil pass0 (pa_cons (pv 0) (pa_cons pe_int pa_nil))) (fun _ _ => rfl)))
    (pss_cons (ps_if (pt_not (pt_val (pv 4)))
     (pss_one (ps_set (i := 11) sc_law_any_system.nd rfl (by first | exact Or.inl rfl | exact Or.inr rfl) (pe_callB (dMax2 rfl) (by rfl) T.n_max (by decide +kernel) (pa_cons (pe_op dSub pe_int pe_int) (pa_cons (pe_op dSub (pe_op dSub (pe_ix (dIx K) (pv 6) (pe_ix (dIx K) (pv 10) pe_int (fun _ _ => rfl)) (fun _ _ => rfl)) (pe_ix (dIx K) (pv 6) (pe_ix (dIx K) (pv 10) pe_int (fun _ _ => rfl)) (fun _ _ => rfl))) (pv 12)) pa_nil)))))
     pss_nil)
    (pss_one (ps_expr (pe_bm PySem.F.plainAttrs_list PySem.F.slot_list_append PySem.F.type_list_append mt_append (pv 8) (pa_cons (pe_tup (pa_cons (pe_ix (dIx K) (pv 10) pe_int (fun _ _ => rfl)) (pa_cons (pe_ix (dIx K) (pv 10) pe_int (fun _ _ => rfl)) (pa_cons (pv 11) pa_nil)))) pa_nil)))))))))
   (pss_cons (ps_set (i := 13) sc_law_any_system.nd rfl (by first | exact Or.inl rfl | exact Or.inr rfl) (pe_lst pa_nil))
   (pss_cons (ps_set (i := 14) sc_law_any_system.nd rfl (by first | exact Or.inl rfl | exact Or.inr rfl) (pe_call (ok_law_doubled T) (hr.mono (by decide)) (by rfl) T.g_law_doubled T.F_law_doubled.kp T.b_law_doubled .nil pass0 (pa_cons (pv 0) (pa_cons (pv 8) pa_nil))))
   (pss_cons (ps_for PassesOwn.never rfl (pi_range1 rfl T.n_range (pa_cons (pe_call (ok_law_draw T) (hr.mono (by decide)) (by rfl) T.g_law_draw T.F_law_draw.kp T.b_law_draw .nil pass0 (pa_cons (pv 0) (pa_cons (pv 3) pa_nil))) pa_nil)) (pg_name (i := 9) sc_law_any_system.nd rfl (by first | exact Or.inl rfl | exact Or.inr rfl))
    (pss_cons (ps_set (i := 10) sc_law_any_system.nd rfl (by first | exact Or.inl rfl | exact Or.inr rfl) (pe_call (ok_law_ends T) (hr.mono (by decide)) (by rfl) T.g_law_ends T.F_law_ends.kp T.b_law_ends .nil pass0 (pa_cons (pv 0) (pa_cons (pv 2) pa_nil))))
    (pss_cons (ps_set (i := 11) sc_law_any_system.nd rfl (by first | exact Or.inl rfl | exact Or.inr rfl) (pe_call (ok_law_gap T) (hr.mono (by decide)) (by rfl) T.g_law_gap T.F_law_gap.kp T.b_law_gap .nil pass0 (pa_cons (pv 0) pa_nil)))
    (pss_cons (ps_set (i := 15) sc_law_any_system.nd rfl (by first | exact Or.inl rfl | exact Or.inr rfl) (pe_ix (dIx K) (pe_lst (pa_cons pe_int (pa_cons pe_int (pa_cons pe_int (pa_cons (pe_call (ok_law_draw T) (hr.mono (by decide)) (by rfl) T.g_law_draw T.F_law_draw.kp T.b_law_draw .nil pass0 (pa_cons (pv 0) (pa_cons pe_int pa_nil))) pa_nil))))) (pe_call (ok_law_draw T) (hr.mono (by decide)) (by rfl) T.g_law_draw T.F_law_draw.kp T.b_law_draw .nil pass0 (pa_cons (pv 0) (pa_cons pe_int pa_nil))) (fun _ _ => rfl)))
    (pss_one (ps_expr (pe_bm PySem.F.plainAttrs_list PySem.F.slot_list_append PySem.F.type_list_append mt_append (pv 13) (pa_cons (pe_tup (pa_cons (pe_ix (dIx K) (pv 10) pe_int (fun _ _ => rfl)) (pa_cons (pe_ix (dIx K) (pv 10) pe_int (fun _ _ => rfl)) (pa_cons (pv 11) (pa_cons (pv 15) pa_nil))))) pa_nil))))))))
   (pss_one (ps_ret (pe_tup (pa_cons (pv 2) (pa_cons (pv 14) (pa_cons (pe_call (ok_law_doubled T) (hr.mono (by decide)) (by rfl) T.g_law_doubled T.F_law_doubled.kp T.b_law_doubled .nil pass0 (pa_cons (pv 0) (pa_cons (pv 13) pa_nil))) pa_nil))))))))))))))))))), ?_⟩
    walk_at "rd"
    refine ⟨b, c, cs, 5, rfl, by decide, by decide, B, fun H1 r f1 B1 r0 r1 => ?_⟩
    obtain ⟨k, rfl⟩ := Int.eq_ofNat_of_zero_le r0
    walk_at "rd"
    refine ⟨fun σ H' => ∃ n : Nat, σ = [some (.ref b), some (.int m), some (.int n), none, none, none, none, none, none, none, none, none, none, none, none, none] ∧ Off b H H' ∧ BagAt b c cs H' ∧ n ≤ 1000, ?_, ?_⟩
    · walk_at "rd"
      refine ⟨b, c, cs, 16, rfl, by decide, by decide, B1, fun H2 r f2 B2 r0 r1 => ?_⟩
      walk_at "rd"
      · refine ⟨b, c, cs, _, rfl, by omega, Int.lt_of_le_of_lt (show (m : Int) + 1 ≤ 2000 by omega) (by decide), B2, fun H3 r f3 B3 r0 r1 => ?_⟩
        obtain ⟨k, rfl⟩ := Int.eq_ofNat_of_zero_le r0
        walk_at "rd"
        exact ⟨k, rfl, (f1.trans f2).trans f3, B3, by omega⟩
      · exact ⟨2 + k, rfl, f1.trans f2, B2, by omega⟩
    · rintro σ H2 ⟨n, rfl, f2, B2, hn⟩
      walk_at "rd"
      · rename_i p1 hp1 p2 hp2 p3 hp3
        have n13 : p1 ≠ p3 := ne_of_none (hp_new hp2 upd_same) hp3
        have n23 : p2 ≠ p3 := ne_of_none upd_same hp3
        exact q _ _ n [] [] (((f2.new hp1).new hp2).new hp3) (((B2.new hp1).new hp2).new hp3) ⟨p3, p1, p2, [], [], rfl, upd_same, hp_set n13 (hp_new hp2 upd_same), .nil, hp_set n23 upd_same, .nil⟩ (fun _ h => nomatch h) (fun _ h => nomatch h) hn (Nat.zero_le _) (Nat.zero_le _)
      · rename_i hn2
        refine ⟨fun σ H' => ∃ R : Int, σ = [some (.ref b), some (.int m), some (.int n), some (.int R), none, none, none, none, none, none, none, none, none, none, none, none] ∧ Off b H H' ∧ BagAt b c cs H' ∧ 0 < R ∧ R ≤ 2900, ?_, ?_⟩
        · walk_at "rd"
          refine ⟨b, c, cs, 16, rfl, by decide, by decide, B2, fun H3 r f3 B3 r0 r1 => ?_⟩
          walk_at "rd"
          · exact ⟨_, rfl, f2.trans f3, B3, by decide, by decide⟩
          · exact ⟨_, rfl, f2.trans f3, B3, by split <;> omega, by split <;> omega⟩
        · rintro σ H3 ⟨R, rfl, f3, B3, R0, R1⟩
          walk_at "rd"
          refine ⟨b, c, cs, 3, rfl, by decide, by decide, B3, fun H4 r4 f4 B4 _ _ => ?_⟩
          walk_at "rd"
          rename_i p hp
          refine ⟨b, c, cs, 4, rfl, by decide, by decide, B4.new hp, fun H5 r5 f5 B5 r50 r51 => ?_⟩
          have g5 : OffG b H H5 := ((f3.trans f4).new hp).trans f5
          obtain ⟨v, hv, st, rfl, st0, st1⟩ := at_all (xs := [.int 1, .int 1, .int 1, .int 50000]) (P := fun v => ∃ i : Int, v = .int i ∧ 0 ≤ i ∧ i ≤ 50000) (by
            intro v hv
            simp only [List.mem_cons, List.not_mem_nil, or_false] at hv
            rcases hv with rfl | rfl | rfl | rfl <;> exact ⟨_, rfl, by decide, by decide⟩) r50 r51
          walk_at "rd"
          refine lc_draw (b := b) (c := c) (cs := cs) (n := n) (fun y => ∃ i : Int, y = .int i ∧ 0 ≤ i ∧ i ≤ 500000) (by omega) (fun Qe h => ?_) B5 (fun _ => rfl) ?_ ?_
          · walk_at "rd"; exact h
          · intro i H6 hi f6 B6 Qe hq
            walk_at "rd"
            refine ⟨b, c, cs, 10, rfl, by decide, by decide, B6, fun H7 r f7 B7 r0 r1 => ?_⟩
            walk_at "rd"
            refine hq _ _ f7 B7 ⟨_, rfl, Int.mul_nonneg st0 r0, ?_⟩
            have := Int.mul_le_mul st1 (show r ≤ 10 by omega) r0 (by decide)
            omega
          · intro h ys H6 hh f6 B6 e6 hly hP
            obtain ⟨hid, rfl, hhid⟩ : ∃ hid : List Int, ys = hid.map V.int ∧ ∀ i ∈ hid, 0 ≤ i ∧ i ≤ 500000 := by
              clear e6 hly
              induction ys with
              | nil => exact ⟨[], rfl, fun _ h => nomatch h⟩
              | cons y r ih =>
                obtain ⟨l, rfl, hl⟩ := ih fun y hy => hP y (List.mem_cons_of_mem _ hy)
                obtain ⟨i, rfl, h0, h1⟩ := hP y (List.mem_cons_self ..)
                exact ⟨i :: l, rfl, fun j hj => by
                  rcases List.mem_cons.mp hj with rfl | hj
                  · exact ⟨h0, h1⟩
                  · exact hl j hj⟩
            have hlen : hid.length = n := by simpa using hly
            have hget : ∀ k, 0 ≤ hid.getD k 0 ∧ hid.getD k 0 ≤ 500000 := fun k => by
              rw [List.getD_eq_getElem?_getD]
              cases e : hid[k]? with
              | none => exact ⟨by decide, by decide⟩
              | some x => exact hhid x (List.mem_of_getElem? e)
            have g6 : OffG b H H6 := Off.trans g5 f6
            have hb : h ≠ b := B5.ne hh
            have hc : h ≠ c := B5.ne2 hh
            have h0 : H h = none := Off.fresh g5 hb hh
            walk_at "rd"
            rename_i l hl
            have lb : l ≠ b := B6.ne hl
            have lc : l ≠ c := B6.ne2 hl
            have hnl : h ≠ l := ne_of_none e6 hl
            have l0 : H l = none := Off.fresh g6 lb hl
            refine ⟨b, c, cs, R, rfl, R0, Int.lt_of_le_of_lt (show R ≤ 3000 by omega) (by decide), B6.new hl, fun H7 r7 f7 B7 r70 r71 => ?_⟩
            obtain ⟨k7, rfl⟩ := Int.eq_ofNat_of_zero_le r70
            refine ⟨_, rfl, by omega, by omega, ?_⟩
            refine for_range (lo := 0) (n := k7) (fun i σ H' => ∃ (x9 x10 x11 x12 : Option V) (vs : List V) (rs : List (List Int)), σ = [some (.ref b), some (.int m), some (.int n), some (.int R), some (.bl (decide (r4 = 0))), some (.int st), some (.ref h), none, some (.ref l), x9, x10, x11, x12, none, none, none] ∧
              Off b H H' ∧ BagAt b c cs H' ∧ H' h = some (.lst (hid.map V.int)) ∧ H' l = some (.lst vs) ∧ RowsAt H' vs rs ∧ OkB n rs ∧ rs.length = i)
              ⟨none, none, none, none, [], [], rfl, (Off.new g6 hl).trans f7, B7, f7.get hb (hp_new hl e6), f7.get lb upd_same, .nil, OkB.nil n, rfl⟩ ?_ ?_
            · rintro i σ H8 hi ⟨x9, x10, x11, x12, vs, rs, rfl, f8, B8, eh8, el8, rw8, ok8, len8⟩
              have lenv := Paired.len rw8
              walk_at "rd"
              refine ⟨b, c, cs, n, rfl, by omega, by omega, B8, fun H9 a s e f9 B9 ea9 s0 s1 e0 e1 sne => ?_⟩
              walk_at "rd"
              refine ⟨b, c, cs, rfl, B9, fun H10 g f10 B10 g0 g1 => ?_⟩
              walk_at "rd"
              rename_i p hp
              refine ⟨b, c, cs, 4, rfl, by decide, by decide, B10.new hp, fun H11 r11 f11 B11 r110 r111 => ?_⟩
              obtain ⟨v, hv, ls, rfl, ls0, ls1⟩ := at_all (xs := [.int 0, .int 0, .int 1, .int (if g < 0 then -g else g)]) (P := fun v => ∃ i : Int, v = .int i ∧ 0 ≤ i ∧ i ≤ 1000000) (by
                intro v hv
                simp only [List.mem_cons, List.not_mem_nil, or_false] at hv
                rcases hv with rfl | rfl | rfl | rfl
                · exact ⟨_, rfl, by decide, by decide⟩
                · exact ⟨_, rfl, by decide, by decide⟩
                · exact ⟨_, rfl, by decide, by decide⟩
                · exact ⟨_, rfl, by split <;> omega, by split <;> omega⟩) r110 r111
              have g11 : OffG b H8 H11 := ((f9.trans f10).new hp).trans f11
              have t11 : TS H8 H11 := B8.ts g11
              have ea11 : H11 a = some (.tup [.int s, .int e]) := ((B9.ts ((f10.new hp).trans f11))) _ _ ea9
              have eh11 := Off.get g11 hb eh8
              have el11 := Off.get g11 lb el8
              have hls : e < ((hid.map V.int).length : Int) := by rw [List.length_map, hlen]; exact e1
              have hls2 : s < ((hid.map V.int).length : Int) := by rw [List.length_map, hlen]; exact s1
              have k1 := hget e.toNat
              have k2 := hget s.toNat
              have fin : ∀ (G : Int) (t : Addr) (x : V), -1000000000 ≤ G → G ≤ 1000000000 → H11 t = none → ∃ (x9 x10 x11 x12 : Option V) (vs' : List V) (rs' : List (List Int)), [some (.ref b), some (.int m), some (.int n), some (.int R), some (.bl (decide (r4 = 0))), some (.int st), some (.ref h), none, some (.ref l), some x, some (.ref a), some (.int G), some (.int ls), none, none, none] = [some (.ref b), some (.int m), some (.int n), some (.int R), some (.bl (decide (r4 = 0))), some (.int st), some (.ref h), none, some (.ref l), x9, x10, x11, x12, none, none, none] ∧
                  Off b H (upd (upd H11 t (.tup [.int s, .int e, .int G])) l (.lst (vs ++ [.ref t]))) ∧ BagAt b c cs (upd (upd H11 t (.tup [.int s, .int e, .int G])) l (.lst (vs ++ [.ref t]))) ∧ (upd (upd H11 t (.tup [.int s, .int e, .int G])) l (.lst (vs ++ [.ref t]))) h = some (.lst (hid.map V.int)) ∧ (upd (upd H11 t (.tup [.int s, .int e, .int G])) l (.lst (vs ++ [.ref t]))) l = some (.lst vs') ∧ RowsAt (upd (upd H11 t (.tup [.int s, .int e, .int G])) l (.lst (vs ++ [.ref t]))) vs' rs' ∧ OkB n rs' ∧ rs'.length = i + 1 := by
                intro G t x G0 G1 ht
                have tl : t ≠ l := (ne_of_none el11 ht).symm
                refine ⟨_, _, _, _, vs ++ [.ref t], rs ++ [[s, e, G]], rfl, ((f8.trans g11).new ht).mut l0, (B11.new ht).put lb lc, hp_set hnl (hp_new ht eh11), upd_same, ?_, ?_, by simp [len8]⟩
                · exact (rw8.ts ((t11.new ht).put (hp_new ht el11))).snoc ⟨t, rfl, hp_set tl upd_same⟩
                · intro r hr
                  rcases List.mem_append.mp hr with hr | hr
                  · exact ok8 r hr
                  · exact ⟨s, e, G, List.mem_singleton.mp hr, s0, s1, e0, e1, sne, G0, G1⟩
              walk_at "rd"
              · exact fin _ _ _ (by split <;> omega) (by split <;> omega) (by assumption)
              · exact fin _ _ _ (by omega) (by omega) (by assumption)
            · rintro σ H8 ⟨x9, x10, x11, x12, vs, rs, rfl, f8, B8, eh8, el8, rw8, ok8, len8⟩
              have lenv := Paired.len rw8
              walk_at "rd"
              rename_i pl hpl
              have plb : pl ≠ b := B8.ne hpl
              have plc : pl ≠ c := B8.ne2 hpl
              have lpl : l ≠ pl := ne_of_none el8 hpl
              have hpln : h ≠ pl := ne_of_none eh8 hpl
              have pl0 : H pl = none := f8.fresh plb hpl
              refine ⟨b, c, cs, l, vs, rfl, B8.new hpl, hp_new hpl el8, lb, lc, by omega, fun H9 a9 ys9 o9 B9 t9 ea9 hy9 => ?_⟩
              have g9 : OffG b H H9 := o9.off (f8.new hpl) l0
              have epl9 := o9 _ _ plb lpl.symm upd_same
              obtain ⟨bs, rb9, hbs⟩ := (rw8.ts (((TS.refl H8).new hpl).trans t9)).dbl hy9
              obtain ⟨okb, lenb⟩ := ok8.dbl hbs
              walk_at "rd"
              refine ⟨b, c, cs, R, rfl, R0, Int.lt_of_le_of_lt (show R ≤ 3000 by omega) (by decide), B9, fun H10 r10 f10 B10 r100 r101 => ?_⟩
              obtain ⟨k10, rfl⟩ := Int.eq_ofNat_of_zero_le r100
              refine ⟨_, rfl, by omega, by omega, ?_⟩
              refine for_range (lo := 0) (n := k10) (fun i σ H' => ∃ (x9 x10 x11 x12 x15 : Option V) (vs' : List V) (ps : List (List Int)), σ = [some (.ref b), some (.int m), some (.int n), some (.int R), some (.bl (decide (r4 = 0))), some (.int st), some (.ref h), none, some (.ref l), x9, x10, x11, x12, some (.ref pl), some (.ref a9), x15] ∧
                Off b H H' ∧ BagAt b c cs H' ∧ H' pl = some (.lst vs') ∧ RowsAt H' vs' ps ∧ OkP n ps ∧ ps.length = i ∧ TS H9 H')
                ⟨_, _, _, _, _, [], [], rfl, Off.trans g9 f10, B10, f10.get plb epl9, .nil, OkP.nil n, rfl, B9.ts f10⟩ ?_ ?_
              · rintro i σ H11 hi ⟨x9, x10, x11, x12, x15, vs', ps, rfl, f11, B11, ep11, rw11, ok11, len11, t11⟩
                have lenv' := Paired.len rw11
                walk_at "rd"
                refine ⟨b, c, cs, n, rfl, by omega, by omega, B11, fun H12 a s e f12 B12 ea12 s0 s1 e0 e1 sne => ?_⟩
                walk_at "rd"
                refine ⟨b, c, cs, rfl, B12, fun H13 g f13 B13 g0 g1 => ?_⟩
                walk_at "rd"
                refine ⟨b, c, cs, 100, rfl, by decide, by decide, B13, fun H14 r14 f14 B14 r140 r141 => ?_⟩
                walk_at "rd"
                rename_i p hp
                refine ⟨b, c, cs, 4, rfl, by decide, by decide, B14.new hp, fun H15 r15 f15 B15 r150 r151 => ?_⟩
                obtain ⟨v, hv, hw, rfl, hw0, hw1⟩ := at_all (xs := [.int 0, .int 1, .int 2, .int r14]) (P := fun v => ∃ i : Int, v = .int i ∧ 0 ≤ i ∧ i ≤ 99) (by
                  intro v hv
                  simp only [List.mem_cons, List.not_mem_nil, or_false] at hv
                  rcases hv with rfl | rfl | rfl | rfl
                  · exact ⟨_, rfl, by decide, by decide⟩
                  · exact ⟨_, rfl, by decide, by decide⟩
                  · exact ⟨_, rfl, by decide, by decide⟩
                  · exact ⟨_, rfl, by omega, by omega⟩) r150 r151
                have g15 : OffG b H11 H15 := (((f12.trans f13).trans f14).new hp).trans f15
                have t15 : TS H11 H15 := B11.ts g15
                have ea15 : H15 a = some (.tup [.int s, .int e]) := (B12.ts (((f13.trans f14).new hp).trans f15)) _ _ ea12
                have ep15 := Off.get g15 plb ep11
                walk_at "rd"
                rename_i t ht
                have tl : t ≠ pl := (ne_of_none ep15 ht).symm
                refine ⟨_, _, _, _, _, vs' ++ [.ref t], ps ++ [[s, e, g, hw]], rfl, ((Off.trans f11 g15).new ht).mut pl0, (B15.new ht).put plb plc, upd_same, ?_, ?_, by simp [len11], (t11.trans ((t15.new ht).put (hp_new ht ep15)))⟩
                · exact (rw11.ts ((t15.new ht).put (hp_new ht ep15))).snoc ⟨t, rfl, hp_set tl upd_same⟩
                · intro r hr
                  rcases List.mem_append.mp hr with hr | hr
                  · exact ok11 r hr
                  · exact ⟨s, e, g, hw, List.mem_singleton.mp hr, s0, s1, e0, e1, sne, by omega, by omega, hw0, hw1⟩
              · rintro σ H11 ⟨x9, x10, x11, x12, x15, vs', ps, rfl, f11, B11, ep11, rw11, ok11, len11, t11⟩
                have lenv' := Paired.len rw11
                walk_at "rd"
                refine ⟨b, c, cs, pl, vs', rfl, B11, ep11, plb, plc, by omega, fun H12 a12 ys12 o12 B12 t12 ea12 hy12 => ?_⟩
                obtain ⟨ps', rp12, hps⟩ := (rw11.ts t12).dbl hy12
                obtain ⟨okp, lenp⟩ := ok11.dbl hps
                walk_at "rd"
                rename_i p hp
                have t9' := t11.trans t12
                have na : a9 ≠ p := ne_of_none (t9' _ _ ea9) hp
                have na2 : a12 ≠ p := ne_of_none ea12 hp
                exact q _ _ n bs ps' ((o12.off f11 pl0).new hp) (B12.new hp) ⟨p, a9, a12, ys9, ys12, rfl, upd_same, hp_set na (t9' _ _ ea9), rb9.ts ((t9').new hp), hp_set na2 ea12, rp12.ts ((TS.refl _).new hp)⟩ okb okp hn (by omega) (by omega)
end
section
variable {P : Program} {w : World} {K : PySem.W.Frag} {mg : Str → Option Value} {base : Heap}
theorem ok_keeps (T : Txt K mg) : FnOk P w K mg base CX0 1 T.f_keeps T.fd_keeps ["system", "heights"] spKeeps := by
  refine T.F_keeps.ok sc_keeps (fun vs H Q E h => ?_) (fun cdv A outer s H vs Q E hr h => ?_)
  · obtain ⟨v, t, n, bs, ps, hs, rfl, _⟩ := h
    rfl
  · obtain ⟨v, t, n, bs, ps, hs, rfl, ⟨a, p, q', vb, vp, rfl, ea, ep, rb, eq, rp⟩, okb, lb, et, hn, q⟩ := h
    have lvb := Paired.len rb
    refine ⟨_, (pss_one (ps_ret (pe_callB (dAll K rfl) (by rfl) T.n_all (by decide +kernel) (pa_cons (pe_lc (own := [("start", 2), ("end", 3), ("gap", 4)]) (g := gTup K 3 (gCons (gName 2) (gCons (gName 3) (gCons (gName 4) (gNil))))) (tt := tYes) rfl sc_keeps.nd  (dpi_tup K (pe_ix (dIx K) (pv 0) pe_int (fun _ _ => rfl))) (blkOk_by (own := [("start", 2), ("end", 3), ("gap", 4)]) (N := ["system", "heights", "start", "end", "gap"]) (sc := defScope s_keeps) (by decide +kernel)) (fun _ _ _ _ _ => (dpg_tup K (n := 3) (by rfl) (pgs_cons (pg_name (i := 2) sc_keeps.nd rfl (by first | exact Or.inl rfl | exact Or.inr rfl)) (pgs_cons (pg_name (i := 3) sc_keeps.nd rfl (by first | exact Or.inl rfl | exact Or.inr rfl)) (pgs_cons (pg_name (i := 4) sc_keeps.nd rfl (by first | exact Or.inl rfl | exact Or.inr rfl)) pgs_nil))))) (fun _ _ _ _ _ => pts_nil) (fun _ _ _ _ _ => (pe_cmpR dGe (pe_op dSub (pe_ix (dIx K) (pv 1) (pv 3) (fun _ _ => rfl)) (pe_ix (dIx K) (pv 1) (pv 2) (fun _ _ => rfl))) (pv 4) (nomark _)))) pa_nil)))), ?_⟩
    walk_at "rd"
    refine lc_rows (a := p) (xs := vb) (rs := bs) (fun _ r => .bl (kb hs r)) (fun _ => true) (fun Qe h => ?_) ep rb (by omega) ?_ ?_
    · walk_at "rd"; exact h
    · rintro x r H' Nx E hr s1 ⟨xa, rfl, ex⟩ hk _
      obtain ⟨s, e, g, rfl, s0, s1', e0, e1, _, _, _⟩ := okb r hr
      have et' : H' t = some (.tup (hs.map V.int)) := s1 _ _ et
      replace ex : H' xa = some (.tup [.int s, .int e, .int g]) := ex
      have a1 := at_hat hn e0 e1
      have a2 := at_hat hn s0 s1'
      walk_at "rd"
      exact hk rfl _ fun _ _ e => e
    · intro D H1 hD s1 e1
      rw [ftrue, zsnd (fun r => V.bl (kb hs r)) vb bs lvb, show bs.map (fun r => V.bl (kb hs r)) = (bs.map (kb hs)).map V.bl by rw [List.map_map]; rfl] at e1
      walk_at "rd"
      rw [List.all_map]
      exact q H1 s1
theorem ok_cost (T : Txt K mg) : FnOk P w K mg base CX0 1 T.f_cost T.fd_cost ["system", "heights"] spCost := by
  refine T.F_cost.ok sc_cost (fun vs H Q E h => ?_) (fun cdv A outer s H vs Q E hr h => ?_)
  · obtain ⟨v, t, n, bs, ps, hs, rfl, _⟩ := h
    rfl
  · obtain ⟨v, t, n, bs, ps, hs, rfl, ⟨a, p, q', vb, vp, rfl, ea, ep, rb, eq, rp⟩, okp, lp, et, hn, q⟩ := h
    have lvp := Paired.len rp
    refine ⟨_, (pss_one (ps_ret (pe_callB (dSum K rfl) (by rfl) T.n_sum (by decide +kernel) (pa_cons (pe_lc (own := [("start", 2), ("end", 3), ("gap", 4), ("weight", 5)]) (g := gTup K 4 (gCons (gName 2) (gCons (gName 3) (gCons (gName 4) (gCons (gName 5) (gNil)))))) (tt := tYes) rfl sc_cost.nd  (dpi_tup K (pe_ix (dIx K) (pv 0) pe_int (fun _ _ => rfl))) (blkOk_by (own := [("start", 2), ("end", 3), ("gap", 4), ("weight", 5)]) (N := ["system", "heights", "start", "end", "gap", "weight"]) (sc := defScope s_cost) (by decide +kernel)) (fun _ _ _ _ _ => (dpg_tup K (n := 4) (by rfl) (pgs_cons (pg_name (i := 2) sc_cost.nd rfl (by first | exact Or.inl rfl | exact Or.inr rfl)) (pgs_cons (pg_name (i := 3) sc_cost.nd rfl (by first | exact Or.inl rfl | exact Or.inr rfl)) (pgs_cons (pg_name (i := 4) sc_cost.nd rfl (by first | exact Or.inl rfl | exact Or.inr rfl)) (pgs_cons (pg_name (i := 5) sc_cost.nd rfl (by first | exact Or.inl rfl | exact Or.inr rfl)) pgs_nil)))))) (fun _ _ _ _ _ => pts_nil) (fun _ _ _ _ _ => (pe_op dMul (pv 5) (pe_callB dAbs (by rfl) T.n_abs (by decide +kernel) (pa_cons (pe_op dSub (pe_op dSub (pe_ix (dIx K) (pv 1) (pv 3) (fun _ _ => rfl)) (pe_ix (dIx K) (pv 1) (pv 2) (fun _ _ => rfl))) (pv 4)) pa_nil))))) pa_nil)))), ?_⟩
    walk_at "rd"
    refine lc_rows (a := q') (xs := vp) (rs := ps) (fun _ r => .int (ct hs r)) (fun _ => true) (fun Qe h => ?_) eq rp (by omega) ?_ ?_
    · walk_at "rd"; exact h
    · rintro x r H' Nx E hr s1 ⟨xa, rfl, ex⟩ hk _
      obtain ⟨s, e, g, w, rfl, s0, s1', e0, e1, _, _, _, w0, w1⟩ := okp r hr
      have et' : H' t = some (.tup (hs.map V.int)) := s1 _ _ et
      replace ex : H' xa = some (.tup [.int s, .int e, .int g, .int w]) := ex
      have a1 := at_hat hn e0 e1
      have a2 := at_hat hn s0 s1'
      walk_at "rd"
      exact hk rfl _ fun _ _ e => e
    · intro D H1 hD s1 e1
      rw [ftrue, zsnd (fun r => V.int (ct hs r)) vp ps lvp, show ps.map (fun r => V.int (ct hs r)) = (ps.map (ct hs)).map V.int by rw [List.map_map]; rfl] at e1
      walk_at "rd"
      exact ⟨D, _, rfl, SqL.of e1, q H1 s1⟩
theorem ok_law_broken (T : Txt K mg) : FnOk P w K mg base CX0 1 T.f_law_broken T.fd_law_broken ["system", "tall"] spBroken := by
  refine T.F_law_broken.ok sc_law_broken (fun vs H Q E h => ?_) (fun cdv A outer s H vs Q E hr h => ?_)
  · obtain ⟨v, t, n, bs, ps, hs, rfl, _⟩ := h
    rfl
  · obtain ⟨v, t, n, bs, ps, hs, rfl, ⟨a, p, q', vb, vp, rfl, ea, ep, rb, eq, rp⟩, okb, lb, et, hn, q⟩ := h
    have lvb := Paired.len rb
    refine ⟨_, (pss_one (ps_ret (pe_callB (dLen K) (by rfl) T.n_len (by decide +kernel) (pa_cons (pe_lc (own := [("b", 2)]) (g := gName 2) rfl sc_law_broken.nd  (dpi_tup K (pe_ix (dIx K) (pv 0) pe_int (fun _ _ => rfl))) (blkOk_by (own := [("b", 2)]) (N := ["system", "tall", "b"]) (sc := defScope s_law_broken) (by decide +kernel)) (fun _ _ _ _ _ => (pg_name (i := 2) sc_law_broken.nd rfl (by first | exact Or.inl rfl | exact Or.inr rfl))) (fun _ _ _ _ _ => (pts_one (pt_cmpR dGt (pe_op (dAdd K) (pe_ix (dIx K) (pv 1) (pe_ix (dIx K) (pv 2) pe_int (fun _ _ => rfl)) (fun _ _ => rfl)) (pe_ix (dIx K) (pv 2) pe_int (fun _ _ => rfl))) (pe_ix (dIx K) (pv 1) (pe_ix (dIx K) (pv 2) pe_int (fun _ _ => rfl)) (fun _ _ => rfl)) (nomark _)))) (fun _ _ _ _ _ => (pv 2))) pa_nil)))), ?_⟩
    walk_at "rd"
    refine lc_rows (a := p) (xs := vb) (rs := bs) (fun x _ => x) (fun r => !kb hs r) (fun Qe h => ?_) ep rb (by omega) ?_ ?_
    · walk_at "rd"; exact h
    · rintro x r H' Nx E hr s1 ⟨xa, rfl, ex⟩ hk hk2
      obtain ⟨s, e, g, rfl, s0, s1', e0, e1, _, _, _⟩ := okb r hr
      have et' : H' t = some (.lst (hs.map V.int)) := s1 _ _ et
      replace ex : H' xa = some (.tup [.int s, .int e, .int g]) := ex
      have a1 := at_hat hn e0 e1
      have a2 := at_hat hn s0 s1'
      walk_at "rd"
      · rename_i hc
        exact hk (by unfold kb; simpa using (show hat hs e - hat hs s < g by omega)) _ fun _ _ e => e
      · rename_i hc
        exact hk2 (by unfold kb; simpa using (show g ≤ hat hs e - hat hs s by omega)) _ fun _ _ e => e
    · intro D H1 hD s1 e1
      walk_at "rd"
      have z := zflen (fun r => !kb hs r) vb bs lvb
      rw [List.length_map, z]
      exact q H1 s1
theorem ok_law_spent (T : Txt K mg) : FnOk P w K mg base CX0 1 T.f_law_spent T.fd_law_spent ["system", "tall"] spSpent := by
  refine T.F_law_spent.ok sc_law_spent (fun vs H Q E h => ?_) (fun cdv A outer s H vs Q E hr h => ?_)
  · obtain ⟨v, t, n, bs, ps, hs, rfl, _⟩ := h
    rfl
  · obtain ⟨v, t, n, bs, ps, hs, rfl, ⟨a, p, q', vb, vp, rfl, ea, ep, rb, eq, rp⟩, okp, lp, et, hn, q⟩ := h
    have lvp := Paired.len rp
    refine ⟨_, (pss_cons (ps_set (i := 2) sc_law_spent.nd rfl (by first | exact Or.inl rfl | exact Or.inr rfl) pe_int)
   (pss_cons (ps_for PassesOwn.never rfl (dpi_tup K (pe_ix (dIx K) (pv 0) pe_int (fun _ _ => rfl))) (pg_name (i := 3) sc_law_spent.nd rfl (by first | exact Or.inl rfl | exact Or.inr rfl))
    (pss_cons (ps_set (i := 4) sc_law_spent.nd rfl (by first | exact Or.inl rfl | exact Or.inr rfl) (pe_ix (dIx K) (pv 1) (pe_ix (dIx K) (pv 3) pe_int (fun _ _ => rfl)) (fun _ _ => rfl)))
    (pss_cons (ps_set (i := 5) sc_law_spent.nd rfl (by first | exact Or.inl rfl | exact Or.inr rfl) (pe_op (dAdd K) (pe_ix (dIx K) (pv 1) (pe_ix (dIx K) (pv 3) pe_int (fun _ _ => rfl)) (fun _ _ => rfl)) (pe_ix (dIx K) (pv 3) pe_int (fun _ _ => rfl))))
    (pss_one (ps_set (i := 2) sc_law_spent.nd rfl (by first | exact Or.inl rfl | exact Or.inr rfl) (pe_op (dAdd K) (pv 2) (pe_op dMul (pe_ix (dIx K) (pv 3) pe_int (fun _ _ => rfl)) (pe_op dSub (pe_callB (dMax2 rfl) (by rfl) T.n_max (by decide +kernel) (pa_cons (pv 4) (pa_cons (pv 5) pa_nil))) (pe_callB (dMin2 rfl) (by rfl) T.n_min (by decide +kernel) (pa_cons (pv 4) (pa_cons (pv 5) pa_nil)))))))))))
   (pss_one (ps_ret (pv 2))))), ?_⟩
    walk_at "rd"
    refine for_tup (K := K) (a := q') (xs := vp) (fun i σ H' => ∃ (x3 x4 x5 : Option V), σ = [some (.ref a), some (.ref t), some (.int (((ps.take i).map (ct hs)).sum)), x3, x4, x5] ∧ H' = H) ⟨none, none, none, rfl, rfl⟩ (fun i σ H' _ h => by obtain ⟨_, _, _, _, rfl⟩ := h; exact SqT.of eq) ?_ ?_
    · rintro i x σ H' hi ⟨x3, x4, x5, rfl, rfl⟩
      obtain ⟨r, er, xa, rfl, ex⟩ := Paired.get1 rp hi
      obtain ⟨s, e, g, w, rfl, s0, s1', e0, e1, _, _, _, w0, w1⟩ := okp r (List.mem_of_getElem? er)
      replace ex : H' xa = some (.tup [.int s, .int e, .int g, .int w]) := ex
      have a1 := at_hat hn e0 e1
      have a2 := at_hat hn s0 s1'
      walk_at "rd"
      refine ⟨some (.ref xa), some (.int (hat hs e)), some (.int (hat hs s + g)), ?_, rfl⟩
      rw [List.take_add_one, er, List.map_append, List.sum_append]
      have ec : w * ((if hat hs s + g > hat hs e then hat hs s + g else hat hs e) - (if hat hs s + g < hat hs e then hat hs s + g else hat hs e)) = ct hs [s, e, g, w] := by
        rw [show ct hs [s, e, g, w] = w * (if hat hs e - hat hs s - g < 0 then -(hat hs e - hat hs s - g) else hat hs e - hat hs s - g) from rfl]
        congr 1
        split <;> split <;> split <;> omega
      simp only [Option.toList_some, List.map_cons, List.map_nil, List.sum_cons, List.sum_nil, Int.add_zero, ← ec]
      rfl
    · rintro σ H' ⟨x3, x4, x5, rfl, rfl⟩
      walk_at "rd"
      rw [show ps.take vp.length = ps from List.take_of_length_le (by omega)]
      exact q
end
section
variable {P : Program} {w : World} {K : PySem.W.Frag} {mg : Str → Option Value} {base : Heap}
theorem ok_law_climbed (T : Txt K mg) : FnOk P w K mg base CX0 1 T.f_law_climbed T.fd_law_climbed ["system", "begin"] spClimbed := by
  refine T.F_law_climbed.ok sc_law_climbed (fun vs H Q E h => ?_) (fun cdv A outer s H vs Q E hr h => ?_)
  · obtain ⟨v, t, n, bs, ps, hs, rfl, _⟩ := h
    rfl
  · obtain ⟨v, t, n, bs, ps, hs, rfl, ⟨a, p, q', vb, vp, rfl, ea, ep, rb, eq, rp⟩, okb, lb, n1000, et, hn, q⟩ := h
    have lvb := Paired.len rb
    refine ⟨_, (pss_cons (ps_set (i := 2) sc_law_climbed.nd rfl (by first | exact Or.inl rfl | exact Or.inr rfl) (pe_callTy (dList K) (by rfl) T.n_list (by decide +kernel) (pa_cons (pv 1) pa_nil)))
   (pss_cons (ps_for PassesOwn.never rfl (pi_range1 rfl T.n_range (pa_cons (pe_op (dAdd K) (pe_ix (dIx K) (pv 0) pe_int (fun _ _ => rfl)) pe_int) pa_nil)) (pg_name (i := 3) sc_law_climbed.nd rfl (by first | exact Or.inl rfl | exact Or.inr rfl))
    (pss_cons (ps_set (i := 4) sc_law_climbed.nd rfl (by first | exact Or.inl rfl | exact Or.inr rfl) pe_bl)
    (pss_cons (ps_for PassesOwn.never rfl (dpi_tup K (pe_ix (dIx K) (pv 0) pe_int (fun _ _ => rfl))) (pg_name (i := 5) sc_law_climbed.nd rfl (by first | exact Or.inl rfl | exact Or.inr rfl))
     (pss_one (ps_if (pt_cmpR dGt (pe_op (dAdd K) (pe_ix (dIx K) (pv 2) (pe_ix (dIx K) (pv 5) pe_int (fun _ _ => rfl)) (fun _ _ => rfl)) (pe_ix (dIx K) (pv 5) pe_int (fun _ _ => rfl))) (pe_ix (dIx K) (pv 2) (pe_ix (dIx K) (pv 5) pe_int (fun _ _ => rfl)) (fun _ _ => rfl)) (nomark _))
      (pss_cons (ps_asg (pe_op (dAdd K) (pe_ix (dIx K) (pv 2) (pe_ix (dIx K) (pv 5) pe_int (fun _ _ => rfl)) (fun _ _ => rfl)) (pe_ix (dIx K) (pv 5) pe_int (fun _ _ => rfl))) (pg_sub (pv 2) (pe_ix (dIx K) (pv 5) pe_int (fun _ _ => rfl)) set_list))
      (pss_one (ps_set (i := 4) sc_law_climbed.nd rfl (by first | exact Or.inl rfl | exact Or.inr rfl) pe_bl)))
      pss_nil)))
    (pss_one (ps_if (pt_not (pt_val (pv 4)))
     (pss_one (ps_ret (pe_callTy (dTuple K) (by rfl) T.n_tuple (by decide +kernel) (pa_cons (pv 2) pa_nil))))
     pss_nil)))))
   (pss_one (ps_ret pe_non)))), ?_⟩
    walk_at "rd"
    rename_i l hl
    refine ⟨_, rfl, by omega, by omega, ?_⟩
    rw [show ((n : Int) + 1).toNat = n + 1 by omega]
    refine for_range (lo := 0) (n := n + 1) (fun i σ H' => ∃ (x3 x4 x5 : Option V) (hs' : List Int), σ = [some (.ref a), some (.ref t), some (.ref l), x3, x4, x5] ∧ Same H H' ∧ H' l = some (.lst (hs'.map V.int)) ∧ hs'.length = n) ⟨none, none, none, hs, rfl, same_upd hl, upd_same, hn⟩ ?_ ?_
    · rintro i σ H1 hi ⟨x3, x4, x5, h1, rfl, s1, el1, hn1⟩
      have ea1 := s1 _ _ ea
      have ep1 := s1 _ _ ep
      walk_at "rd"
      refine for_tup (K := K) (a := p) (xs := vb) (fun j σ H' => ∃ (x3 x5 : Option V) (ch : Bool) (hs' : List Int), σ = [some (.ref a), some (.ref t), some (.ref l), x3, some (.bl ch), x5] ∧ Same H H' ∧ H' l = some (.lst (hs'.map V.int)) ∧ hs'.length = n) ⟨_, _, false, h1, rfl, s1, el1, hn1⟩ (fun i σ H' _ h => by obtain ⟨_, _, _, _, _, s2, _⟩ := h; exact SqT.of (s2 _ _ ep)) ?_ ?_
      · rintro j x σ H2 hj ⟨x3, x5, ch, h2, rfl, s2, el2, hn2⟩
        obtain ⟨r, er, xa, rfl, ex⟩ := Paired.get1 rb hj
        obtain ⟨s, e, g, rfl, s0, s1', e0, e1, _, _, _⟩ := okb r (List.mem_of_getElem? er)
        have ex2 : H2 xa = some (.tup [.int s, .int e, .int g]) := s2 _ _ ex
        have a1 := at_hat hn2 e0 e1
        have a2 := at_hat hn2 s0 s1'
        have xl : xa ≠ l := ne_of ex2 el2 (fun z => by cases z)
        obtain ⟨k, rfl⟩ := Int.eq_ofNat_of_zero_le e0
        have hk : ixN (h2.map V.int).length (k : Int) = some k := by
          unfold ixN
          rw [List.length_map, hn2, if_pos (by omega), if_pos (by omega)]
          simp
        walk_at "rd"
        · refine rv_setL el2 hk ?_
          walk_at "rd"
          rw [setm_int]
          exact ⟨_, _, true, _, rfl, fun b o eb => (upd_ne (ne_of_none eb hl)).trans (s2 _ _ eb), upd_same, by rw [List.length_set]; exact hn2⟩
        · exact ⟨_, _, ch, h2, rfl, s2, el2, hn2⟩
      · rintro σ H2 ⟨x3, x5, ch, h2, rfl, s2, el2, hn2⟩
        walk_at "rd"
        · rename_i p2 hp2
          exact q _ _ (s2.trans (same_upd hp2)) (.inr ⟨p2, h2, rfl, upd_same, hn2⟩)
        · exact ⟨_, _, _, h2, rfl, s2, el2, hn2⟩
    · rintro σ H1 ⟨x3, x4, x5, h1, rfl, s1, el1, hn1⟩
      walk_at "rd"
      exact q _ _ s1 (.inl rfl)
theorem ok_law_signed (T : Txt K mg) : FnOk P w K mg base CX0 2 T.f_law_signed T.fd_law_signed ["bag", "many"] spSigned := by
  refine T.F_law_signed.ok sc_law_signed (fun vs H Q E h => ?_) (fun cdv A outer s H vs Q E hr h => ?_)
  · obtain ⟨b, c, cs, m, rfl, _⟩ := h
    rfl
  · obtain ⟨b, c, cs, m, rfl, m0, m1, B, q⟩ := h
    refine ⟨_, (pss_cons (ps_set (i := 2) sc_law_signed.nd rfl (by first | exact Or.inl rfl | exact Or.inr rfl) (pe_call (ok_law_draw T) (hr.mono (by decide)) (by rfl) T.g_law_draw T.F_law_draw.kp T.b_law_draw .nil pass0 (pa_cons (pv 0) (pa_cons (pv 1) pa_nil))))
   (pss_cons (ps_if (pt_cmpR dEq (pe_call (ok_law_draw T) (hr.mono (by decide)) (by rfl) T.g_law_draw T.F_law_draw.kp T.b_law_draw .nil pass0 (pa_cons (pv 0) (pa_cons pe_int pa_nil))) pe_int (nomark _))
    (pss_one (ps_ret (pe_op dSub pe_int (pv 2))))
    pss_nil)
   (pss_one (ps_ret (pv 2))))), ?_⟩
    walk_at "rd"
    refine ⟨b, c, cs, m, rfl, m0, m1, B, fun H1 r f1 B1 r0 r1 => ?_⟩
    walk_at "rd"
    refine ⟨b, c, cs, 2, rfl, by decide, by decide, B1, fun H2 r2 f2 B2 r20 r21 => ?_⟩
    walk_at "rd"
    all_goals exact q _ _ (f1.trans f2) B2
theorem ok_law_beside (T : Txt K mg) : FnOk P w K mg base CX0 2 T.f_law_beside T.fd_law_beside ["bag", "tall"] spBeside := by
  refine T.F_law_beside.ok sc_law_beside (fun vs H Q E h => ?_) (fun cdv A outer s H vs Q E hr h => ?_)
  · obtain ⟨b, c, cs, t, hs, rfl, _⟩ := h
    rfl
  · obtain ⟨b, c, cs, t, hs, rfl, et, tb, hl, B, q⟩ := h
    refine ⟨_, (pss_cons (ps_set (i := 2) sc_law_beside.nd rfl (by first | exact Or.inl rfl | exact Or.inr rfl) (pe_callTy (dList K) (by rfl) T.n_list (by decide +kernel) (pa_cons (pv 1) pa_nil)))
   (pss_cons (ps_if (pt_cmpR dGt (pe_callB (dLen K) (by rfl) T.n_len (by decide +kernel) (pa_cons (pv 2) pa_nil)) pe_int (nomark _))
    (pss_cons (ps_set (i := 3) sc_law_beside.nd rfl (by first | exact Or.inl rfl | exact Or.inr rfl) (pe_call (ok_law_draw T) (hr.mono (by decide)) (by rfl) T.g_law_draw T.F_law_draw.kp T.b_law_draw .nil pass0 (pa_cons (pv 0) (pa_cons (pe_callB (dLen K) (by rfl) T.n_len (by decide +kernel) (pa_cons (pv 2) pa_nil)) pa_nil))))
    (pss_one (ps_if (pt_cmpR dGt (pe_ix (dIx K) (pv 2) (pv 3) (fun _ _ => rfl)) pe_int (nomark _))
     (pss_one (ps_asg (pe_op dSub (pe_ix (dIx K) (pv 2) (pv 3) (fun _ _ => rfl)) pe_int) (pg_sub (pv 2) (pv 3) set_list)))
     (pss_one (ps_asg (pe_op (dAdd K) (pe_ix (dIx K) (pv 2) (pv 3) (fun _ _ => rfl)) pe_int) (pg_sub (pv 2) (pv 3) set_list))))))
    pss_nil)
   (pss_one (ps_ret (pv 2))))), ?_⟩
    walk_at "rd"
    · rename_i p hp h0
      have pb := B.ne hp
      have pc := B.ne2 hp
      refine ⟨b, c, cs, _, rfl, by assumption, Int.lt_of_le_of_lt (show ((hs.map V.int).length : Int) ≤ 1000 by rw [List.length_map]; omega) (by decide), B.new hp, fun H1 r f1 B1 r0 r1 => ?_⟩
      have ep1 := f1.get pb upd_same
      obtain ⟨k, rfl⟩ := Int.eq_ofNat_of_zero_le r0
      have a1 := at_hat (hs := hs) rfl (show (0 : Int) ≤ k by omega) (by rw [List.length_map] at r1; exact r1)
      have hk : ixN (hs.map V.int).length (k : Int) = some k := by
        unfold ixN
        rw [if_pos (by omega), if_pos r1]
        simp
      walk_at "rd"
      all_goals
        refine rv_setL ep1 hk ?_
        walk_at "rd"
        rw [setm_int]
        exact q _ p _ ((Off.trans ((Off.refl b H).new hp) f1).mut hp) (B1.put pb pc) upd_same (by rw [List.length_set]) pb
    · rename_i p hp h0
      exact q _ p hs ((Off.refl b H).new hp) (B.new hp) upd_same rfl (B.ne hp)
end
section
variable {P : Program} {w : World} {K : PySem.W.Frag} {mg : Str → Option Value} {base : Heap}
--! _law_tall cut5 yes
--! _law_tall cut6 yes
theorem ok_law_tall (T : Txt K mg) : FnOk P w K mg base CX0 3 T.f_law_tall T.fd_law_tall ["bag", "system"] spTall := by
  refine T.F_law_tall.ok sc_law_tall (fun vs H Q E h => ?_) (fun cdv A outer s H vs Q E hr h => ?_)
  · obtain ⟨b, c, cs, v, n, bs, ps, rfl, _⟩ := h
    rfl
  · obtain ⟨b, c, cs, v, n, bs, ps, rfl, S, okb, lb, n1000, B, q⟩ := h
    obtain ⟨a, p, q', vb, vp, rfl, ea, ep, rb, eq, rp⟩ := id S
    refine ⟨_, (pss_cons (ps_set (i := 2) sc_law_tall.nd rfl (by first | exact Or.inl rfl | exact Or.inr rfl) (pe_call (ok_law_draw T) (hr.mono (by decide)) (by rfl) T.g_law_draw T.F_law_draw.kp T.b_law_draw .nil pass0 (pa_cons (pv 0) (pa_cons pe_int pa_nil))))
   (pss_cons (ps_if (pt_cmpR dEq (pv 2) pe_int (nomark _))
    (pss_one (ps_ret (pe_op dMul (pe_lst (pa_cons pe_int pa_nil)) (pe_ix (dIx K) (pv 1) pe_int (fun _ _ => rfl)))))
    pss_nil)
   (pss_cons (ps_if (pt_cmpR dEq (pv 2) pe_int (nomark _))
    (pss_one (ps_ret (pe_lc (own := [("x", 3)]) (g := gName 3) (tt := tYes) rfl sc_law_tall.nd  (pi_range1 rfl T.n_range (pa_cons (pe_ix (dIx K) (pv 1) pe_int (fun _ _ => rfl)) pa_nil)) (blkOk_by (own := [("x", 3)]) (N := ["bag", "system", "way_of", "x", "lowest", "tall", "change", "shift", "one"]) (sc := defScope s_law_tall) (by decide +kernel)) (fun _ _ _ _ _ => (pg_name (i := 3) sc_law_tall.nd rfl (by first | exact Or.inl rfl | exact Or.inr rfl))) (fun _ _ _ _ _ => pts_nil) (fun _ _ _ _ _ => (pe_call (ok_law_signed T) (hr.mono (by decide)) (by rfl) T.g_law_signed T.F_law_signed.kp T.b_law_signed .nil pass0 (pa_cons (pv 0) (pa_cons pe_int pa_nil)))))))
    pss_nil)
   (pss_cons (ps_if (pt_cmpR dEq (pv 2) pe_int (nomark _))
    (pss_one (ps_ret (pe_lc (own := [("x", 3)]) (g := gName 3) (tt := tYes) rfl sc_law_tall.nd  (pi_range1 rfl T.n_range (pa_cons (pe_ix (dIx K) (pv 1) pe_int (fun _ _ => rfl)) pa_nil)) (blkOk_by (own := [("x", 3)]) (N := ["bag", "system", "way_of", "x", "lowest", "tall", "change", "shift", "one"]) (sc := defScope s_law_tall) (by decide +kernel)) (fun _ _ _ _ _ => (pg_name (i := 3) sc_law_tall.nd rfl (by first | exact Or.inl rfl | exact Or.inr rfl))) (fun _ _ _ _ _ => pts_nil) (fun _ _ _ _ _ => (pe_call (ok_law_signed T) (hr.mono (by decide)) (by rfl) T.g_law_signed T.F_law_signed.kp T.b_law_signed .nil pass0 (pa_cons (pv 0) (pa_cons (pe_op dPow pe_int pe_int) pa_nil)))))))
    pss_nil)
   (pss_cons (ps_set (i := 4) sc_law_tall.nd rfl (by first | exact Or.inl rfl | exact Or.inr rfl) (pe_call (ok_law_climbed T) (hr.mono (by decide)) (by rfl) T.g_law_climbed T.F_law_climbed.kp T.b_law_climbed .nil pass0 (pa_cons (pv 1) (pa_cons (pe_op dMul (pe_lst (pa_cons pe_int pa_nil)) (pe_ix (dIx K) (pv 1) pe_int (fun _ _ => rfl))) pa_nil))))
   (pss_cons (ps_if (PW.pt (pw_or (pt_cmpR dEq (pv 2) pe_int (nomark _)) (pw_or (pt_cmpR dIsN (pv 4) pe_non (nomark _)) (pw_or1 (pt_cmpR dEq (pe_ix (dIx K) (pv 1) pe_int (fun _ _ => rfl)) pe_int (nomark _))))))
    (pss_one (ps_ret (pe_lc (own := [("x", 3)]) (g := gName 3) (tt := tYes) rfl sc_law_tall.nd  (pi_range1 rfl T.n_range (pa_cons (pe_ix (dIx K) (pv 1) pe_int (fun _ _ => rfl)) pa_nil)) (blkOk_by (own := [("x", 3)]) (N := ["bag", "system", "way_of", "x", "lowest", "tall", "change", "shift", "one"]) (sc := defScope s_law_tall) (by decide +kernel)) (fun _ _ _ _ _ => (pg_name (i := 3) sc_law_tall.nd rfl (by first | exact Or.inl rfl | exact Or.inr rfl))) (fun _ _ _ _ _ => pts_nil) (fun _ _ _ _ _ => (pe_op dSub (pe_call (ok_law_draw T) (hr.mono (by decide)) (by rfl) T.g_law_draw T.F_law_draw.kp T.b_law_draw .nil pass0 (pa_cons (pv 0) (pa_cons pe_int pa_nil))) pe_int)))))
    pss_nil)
   (pss_cons (ps_set (i := 5) sc_law_tall.nd rfl (by first | exact Or.inl rfl | exact Or.inr rfl) (pe_callTy (dList K) (by rfl) T.n_list (by decide +kernel) (pa_cons (pv 4) pa_nil)))
   (pss_cons (ps_set (i := 6) sc_law_tall.nd rfl (by first | exact Or.inl rfl | exact Or.inr rfl) (pe_call (ok_law_draw T) (hr.mono (by decide)) (by rfl) T.g_law_draw T.F_law_draw.kp T.b_law_draw .nil pass0 (pa_cons (pv 0) (pa_cons pe_int pa_nil))))
   (pss_cons (ps_set (i := 3) sc_law_tall.nd rfl (by first | exact Or.inl rfl | exact Or.inr rfl) (pe_call (ok_law_draw T) (hr.mono (by decide)) (by rfl) T.g_law_draw T.F_law_draw.kp T.b_law_draw .nil pass0 (pa_cons (pv 0) (pa_cons (pe_ix (dIx K) (pv 1) pe_int (fun _ _ => rfl)) pa_nil))))
   (C8.pss_cut (ps_if (pt_cmpR dEq (pv 6) pe_int (nomark _))
    (pss_one (ps_asg (pe_op dSub (pe_ix (dIx K) (pv 5) (pv 3) (fun _ _ => rfl)) pe_int) (pg_sub (pv 5) (pv 3) set_list)))
    pss_nil)
   (C8.pss_cut (ps_if (pt_cmpR dEq (pv 6) pe_int (nomark _))
    (pss_one (ps_asg (pe_op (dAdd K) (pe_ix (dIx K) (pv 5) (pv 3) (fun _ _ => rfl)) pe_int) (pg_sub (pv 5) (pv 3) set_list)))
    pss_nil)
   (pss_cons (ps_if (pt_cmpR dEq (pv 6) pe_int (nomark _))
    (pss_cons (ps_set (i := 7) sc_law_tall.nd rfl (by first | exact Or.inl rfl | exact Or.inr rfl) (pe_op dSub (pe_call (ok_law_draw T) (hr.mono (by decide)) (by rfl) T.g_law_draw T.F_law_draw.kp T.b_law_draw .nil pass0 (pa_cons (pv 0) (pa_cons pe_int pa_nil))) pe_int))
    (pss_one (ps_setLc (i := 5) (own := [("one", 8)]) (g := gName 8) (tt := tYes) rfl sc_law_tall.nd rfl rfl (sw_true rfl rfl rfl (by decide +kernel)) (dpi_list K (pv 5)) (blkOk_by (own := [("one", 8)]) (N := ["bag", "system", "way_of", "x", "lowest", "tall", "change", "shift", "one"]) (sc := defScope s_law_tall) (by decide +kernel)) (fun _ _ _ _ _ => (pg_name (i := 8) sc_law_tall.nd rfl (by first | exact Or.inl rfl | exact Or.inr rfl))) (fun _ _ _ _ _ => pts_nil) (fun _ _ _ _ _ => (pe_op (dAdd K) (pv 8) (pv 7))))))
    pss_nil)
   (pss_one (ps_ret (pv 5))))))))))))))), ?_⟩
    walk_at "rd"
    refine ⟨b, c, cs, 6, rfl, by decide, by decide, B, fun H1 w1 f1 B1 _ _ => ?_⟩
    have S1 := S.ts (B.ts f1)
    have ea1 : H1 a = some (.tup [.int n, .ref p, .ref q']) := (B.ts f1) _ _ ea
    have comp : ∀ (Hc : Hp) (D : Addr) (ys : List V) (H' : Hp), Off b H Hc → BagAt b c cs Hc → Hc D = none → Off b Hc H' → BagAt b c cs H' → H' D = some (.lst ys) → ys.length = n → (∀ y ∈ ys, ∃ i : Int, y = .int i) → Q (.ref D) H' := by
      intro Hc D ys H' fc Bc hD f B' e el hP
      obtain ⟨hs, rfl⟩ := ints_of hP
      exact q _ D hs (fc.trans f) B' e (by simpa using el) (Bc.ne hD)
    walk_at "rd"
    · rename_i z hz
      refine rv_rep upd_same ⟨by omega, by omega, by simp; exact sz4 (by omega)⟩ (fun l hl => ?_)
      rw [rep_map n _ rfl]
      exact q _ l _ ((f1.new hz).new hl) ((B1.new hz).new hl) upd_same (by simp) ((B1.new hz).ne hl)
    · refine lc_draw (b := b) (c := c) (cs := cs) (n := n) (fun y => ∃ i : Int, y = .int i) (by omega) (fun Qe h => ?_) B1 (fun _ => rfl) ?_ (fun D ys H' hD f B' e el hP => comp H1 D ys H' f1 B1 hD f B' e el hP)
      · walk_at "rd"; exact h
      · intro i H' hi f B' Qe hq
        walk_at "rd"
        exact ⟨b, c, cs, _, rfl, by decide, by decide, B', fun H2 r f2 B2 => hq _ _ f2 B2 ⟨r, rfl⟩⟩
    · refine lc_draw (b := b) (c := c) (cs := cs) (n := n) (fun y => ∃ i : Int, y = .int i) (by omega) (fun Qe h => ?_) B1 (fun _ => rfl) ?_ (fun D ys H' hD f B' e el hP => comp H1 D ys H' f1 B1 hD f B' e el hP)
      · walk_at "rd"; exact h
      · intro i H' hi f B' Qe hq
        walk_at "rd"
        exact ⟨b, c, cs, _, rfl, by decide, by decide, B', fun H2 r f2 B2 => hq _ _ f2 B2 ⟨r, rfl⟩⟩
    · rename_i z hz
      refine rv_rep upd_same ⟨by omega, by omega, by simp; exact sz4 (by omega)⟩ (fun l hl => ?_)
      rw [rep_map n _ rfl]
      walk_at "rd"
      have t2 : TS H1 (upd (upd H1 z (.lst [.int 0])) l (.lst ((List.replicate n (0 : Int)).map V.int))) := ((TS.refl H1).new hz).new hl
      refine ⟨_, l, n, bs, ps, _, rfl, S1.ts t2, okb, lb, n1000, upd_same, by simp, fun H2 r s2 hr2 => ?_⟩
      have f2 : OffG b H H2 := ((f1.new hz).new hl).trans (.of_same s2)
      have B2 : BagAt b c cs H2 := ((B1.new hz).new hl).same s2
      have ea2 : H2 a = some (.tup [.int n, .ref p, .ref q']) := s2 _ _ (t2 _ _ ea1)
      have done : ∀ Qe : VK, (∀ (D : Addr) (ys : List V) (H' : Hp), H2 D = none → Off b H2 H' → BagAt b c cs H' → H' D = some (.lst ys) → ys.length = n → (∀ y ∈ ys, ∃ i : Int, y = .int i) → Qe (.ref D) H') → True := fun _ _ => trivial
      rcases hr2 with rfl | ⟨u, h2, rfl, eu, hn2⟩
      · walk_at "rd"
        all_goals
          refine lc_draw (b := b) (c := c) (cs := cs) (n := n) (fun y => ∃ i : Int, y = .int i) (by omega) (fun Qe h => ?_) B2 (fun _ => rfl) ?_ (fun D ys H' hD f B' e el hP => comp H2 D ys H' f2 B2 hD f B' e el hP)
          · walk_at "rd"; exact h
          · intro i H' hi f B' Qe hq
            walk_at "rd"
            refine ⟨b, c, cs, 12, rfl, by decide, by decide, B', fun H3 r f3 B3 _ _ => ?_⟩
            walk_at "rd"
            exact hq _ _ f3 B3 ⟨_, rfl⟩
      · walk_at "rd"
        · refine lc_draw (b := b) (c := c) (cs := cs) (n := n) (fun y => ∃ i : Int, y = .int i) (by omega) (fun Qe h => ?_) B2 (fun _ => rfl) ?_ (fun D ys H' hD f B' e el hP => comp H2 D ys H' f2 B2 hD f B' e el hP)
          · walk_at "rd"; exact h
          · intro i H' hi f B' Qe hq
            walk_at "rd"
            refine ⟨b, c, cs, 12, rfl, by decide, by decide, B', fun H3 r f3 B3 _ _ => ?_⟩
            walk_at "rd"
            exact hq _ _ f3 B3 ⟨_, rfl⟩
        · refine lc_draw (b := b) (c := c) (cs := cs) (n := n) (fun y => ∃ i : Int, y = .int i) (by omega) (fun Qe h => ?_) B2 (fun _ => rfl) ?_ (fun D ys H' hD f B' e el hP => comp H2 D ys H' f2 B2 hD f B' e el hP)
          · walk_at "rd"; exact h
          · intro i H' hi f B' Qe hq
            walk_at "rd"
            refine ⟨b, c, cs, 12, rfl, by decide, by decide, B', fun H3 r f3 B3 _ _ => ?_⟩
            walk_at "rd"
            exact hq _ _ f3 B3 ⟨_, rfl⟩
        · rename_i tl htl
          have tb := B2.ne htl
          have tc := B2.ne2 htl
          have tl0 : H tl = none := Off.fresh f2 tb htl
          refine ⟨b, c, cs, 4, rfl, by decide, by decide, B2.new htl, fun H3 r3 f3 B3 _ _ => ?_⟩
          have ea3 : H3 a = some (.tup [.int n, .ref p, .ref q']) := ((B2.new htl).ts f3) _ _ (hp_new htl ea2)
          walk_at "rd"
          refine ⟨b, c, cs, _, rfl, by omega, Int.lt_of_le_of_lt (show (n : Int) ≤ 1000 by omega) (by decide), B3, fun H4 r4 f4 B4 r40 r41 => ?_⟩
          obtain ⟨k, rfl⟩ := Int.eq_ofNat_of_zero_le r40
          have f24 : OffG b H H4 := ((Off.new f2 htl).trans f3).trans f4
          have et4 : H4 tl = some (.lst (h2.map V.int)) := f4.get tb (f3.get tb upd_same)
          walk_at "rd"
          have step : ∀ (h5 : List Int) (H5 : Hp), H5 tl = some (.lst (h5.map V.int)) → h5.length = n → ixN (h5.map V.int).length (k : Int) = some k ∧ atI (h5.map V.int) (k : Int) = some (.int (hat h5 k)) := by
            intro h5 H5 _ hl5
            refine ⟨?_, at_hat hl5 (by omega) r41⟩
            unfold ixN
            rw [List.length_map, hl5, if_pos (by omega), if_pos r41]
            simp
          refine ⟨fun σ H' => ∃ h5 : List Int, σ = [some (.ref b), some (.ref a), some (.int w1), some (.int k), some (.ref u), some (.ref tl), some (.int r3), none, none] ∧ Off b H H' ∧ BagAt b c cs H' ∧ H' tl = some (.lst (h5.map V.int)) ∧ h5.length = n, ?_, ?_⟩
          · obtain ⟨k1, k2⟩ := step h2 H4 et4 hn2
            walk_at "rd"
            · refine rv_setL et4 k1 ?_
              rw [setm_int]
              exact ⟨_, rfl, Off.mut f24 tl0, B4.put tb tc, upd_same, by rw [List.length_set]; exact hn2⟩
            · exact ⟨_, rfl, f24, B4, et4, hn2⟩
          · rintro σ H5 ⟨h5, rfl, f5, B5, et5, hn5⟩
            obtain ⟨k1, k2⟩ := step h5 H5 et5 hn5
            refine ⟨fun σ H' => ∃ h5 : List Int, σ = [some (.ref b), some (.ref a), some (.int w1), some (.int k), some (.ref u), some (.ref tl), some (.int r3), none, none] ∧ Off b H H' ∧ BagAt b c cs H' ∧ H' tl = some (.lst (h5.map V.int)) ∧ h5.length = n, ?_, ?_⟩
            · walk_at "rd"
              · refine rv_setL et5 k1 ?_
                rw [setm_int]
                exact ⟨_, rfl, f5.mut tl0, B5.put tb tc, upd_same, by rw [List.length_set]; exact hn5⟩
              · exact ⟨_, rfl, f5, B5, et5, hn5⟩
            · rintro σ H6 ⟨h6, rfl, f6, B6, et6, hn6⟩
              walk_at "rd"
              · refine ⟨b, c, cs, 2000001, rfl, by decide, by decide, B6, fun H7 r7 f7 B7 _ _ => ?_⟩
                have et7 := f7.get tb et6
                walk_at "rd"
                refine lc_map (a := tl) (xs := h6.map V.int) (fun x => match x with | .int i => .int (i + (r7 - 1000000)) | _ => x) (fun Qe h => ?_) (SqL.of et7) (by rw [List.length_map]; exact sz4' (by omega)) (fun _ => rfl) ?_ ?_
                · walk_at "rd"; exact h
                · intro i x H' hx s1 Qe hq
                  obtain ⟨m, rfl⟩ : ∃ m, x = V.int m := by
                    obtain ⟨m, _, e⟩ := List.mem_map.mp (List.mem_of_getElem? hx)
                    exact ⟨m, e.symm⟩
                  walk_at "rd"
                  exact hq _ fun _ _ e => e
                · intro D H8 hD s8 e8
                  rw [show List.map (fun x => match x with | .int i => .int (i + (r7 - 1000000)) | _ => x) (h6.map V.int) = (h6.map fun i => i + (r7 - 1000000)).map V.int by rw [List.map_map, List.map_map]; rfl] at e8
                  walk_at "rd"
                  exact q _ D _ ((f6.trans f7).trans (.of_same s8)) (B7.same s8) e8 (by simp [hn6]) (B7.ne hD)
              · exact q _ tl _ f6 B6 et6 hn6 tb
end
section
variable {P : Program} {w : World} {K : PySem.W.Frag} {mg : Str → Option Value} {base : Heap}
def spLaw (K : PySem.W.Frag) : Sp := fun vs H Q _ => ∃ (a : Addr) (ns : List Int), vs = [.ref a] ∧ SqL K H a (ns.map V.int) ∧ ns.length ≤ 63 ∧ ∀ H', Q (.bl true) H'
theorem all_filter {α : Type} (p : α → Bool) (l : List α) : l.all p = decide (((l.filter fun r => !p r).length : Int) = 0) := by
  induction l with
  | nil => rfl
  | cons x r ih =>
    rw [List.all_cons, List.filter_cons]
    cases e : p x
    · simp; omega
    · simp [ih]
theorem ok_law (T : Txt K mg) {f : Addr} {fd : FuncData} (F : Fun K "law" "law" s_law f fd) : FnOk P w K mg base CX0 4 f fd ["script"] (spLaw K) := by
  refine F.ok sc_law (fun vs H Q E h => ?_) (fun cdv A outer s H vs Q E hr h => ?_)
  · obtain ⟨a, ns, rfl, _⟩ := h
    rfl
  · obtain ⟨a, ns, rfl, hS, hlen, q⟩ := h
    refine ⟨_, (pss_cons (ps_set (i := 1) sc_law.nd rfl (by first | exact Or.inl rfl | exact Or.inr rfl) (pe_call (ok_law_bag T) (hr.mono (by decide)) (by rfl) T.g_law_bag T.F_law_bag.kp T.b_law_bag .nil pass0 (pa_cons (pv 0) pa_nil)))
   (pss_cons (ps_set (i := 2) sc_law.nd rfl (by first | exact Or.inl rfl | exact Or.inr rfl) (pe_call (ok_law_any_system T) (hr.mono (by decide)) (by rfl) T.g_law_any_system T.F_law_any_system.kp T.b_law_any_system .nil pass0 (pa_cons (pv 1) (pa_cons pe_int pa_nil))))
   (pss_cons (ps_set (i := 3) sc_law.nd rfl (by first | exact Or.inl rfl | exact Or.inr rfl) (pe_call (ok_law_tall T) (hr.mono (by decide)) (by rfl) T.g_law_tall T.F_law_tall.kp T.b_law_tall .nil pass0 (pa_cons (pv 1) (pa_cons (pv 2) pa_nil))))
   (pss_cons (ps_set (i := 4) sc_law.nd rfl (by first | exact Or.inl rfl | exact Or.inr rfl) (pe_call (ok_law_beside T) (hr.mono (by decide)) (by rfl) T.g_law_beside T.F_law_beside.kp T.b_law_beside .nil pass0 (pa_cons (pv 1) (pa_cons (pv 3) pa_nil))))
   (pss_cons (ps_for PassesOwn.never rfl (dpi_list K (pe_lst (pa_cons (pv 3) (pa_cons (pv 4) (pa_cons (pv 3) pa_nil))))) (pg_name (i := 5) sc_law.nd rfl (by first | exact Or.inl rfl | exact Or.inr rfl))
    (pss_cons (ps_set (i := 6) sc_law.nd rfl (by first | exact Or.inl rfl | exact Or.inr rfl) (pe_call (ok_keeps T) (hr.mono (by decide)) (by rfl) T.g_keeps T.F_keeps.kp T.b_keeps .nil pass0 (pa_cons (pv 2) (pa_cons (pe_callTy (dTuple K) (by rfl) T.n_tuple (by decide +kernel) (pa_cons (pv 5) pa_nil)) pa_nil))))
    (pss_cons (ps_if (PW.pt (pw_or (pt_not (pt_val (pe_callB (dIsi K) (by rfl) T.n_isinstance (by decide +kernel) (pa_cons (pv 6) (pa_cons (pe_bltn (v := .ty "bool") (u := .type "bool") (by rfl) T.n_bool (by decide +kernel) rfl) pa_nil))))) (pw_or1 (pt_cmpR dNe (pv 6) (pe_cmpR dEq (pe_call (ok_law_broken T) (hr.mono (by decide)) (by rfl) T.g_law_broken T.F_law_broken.kp T.b_law_broken .nil pass0 (pa_cons (pv 2) (pa_cons (pv 5) pa_nil))) pe_int (nomark _)) (nomark _)))))
     (pss_one (ps_ret pe_bl))
     pss_nil)
    (pss_cons (ps_set (i := 7) sc_law.nd rfl (by first | exact Or.inl rfl | exact Or.inr rfl) (pe_call (ok_cost T) (hr.mono (by decide)) (by rfl) T.g_cost T.F_cost.kp T.b_cost .nil pass0 (pa_cons (pv 2) (pa_cons (pe_callTy (dTuple K) (by rfl) T.n_tuple (by decide +kernel) (pa_cons (pv 5) pa_nil)) pa_nil))))
    (pss_one (ps_if (PW.pt (pw_or (pt_not (pt_val (pe_call (ok_law_whole T) (hr.mono (by decide)) (by rfl) T.g_law_whole T.F_law_whole.kp T.b_law_whole .nil pass0 (pa_cons (pv 7) pa_nil)))) (pw_or1 (pt_cmpR dNe (pv 7) (pe_call (ok_law_spent T) (hr.mono (by decide)) (by rfl) T.g_law_spent T.F_law_spent.kp T.b_law_spent .nil pass0 (pa_cons (pv 2) (pa_cons (pv 5) pa_nil))) (nomark _)))))
     (pss_one (ps_ret pe_bl))
     pss_nil))))))
   (pss_one (ps_ret pe_bl))))))), ?_⟩
    walk_at "rd"
    refine ⟨a, ns, rfl, hS, hlen, fun H1 b c cs s1 hb B => ?_⟩
    walk_at "rd"
    refine ⟨b, c, cs, 16, rfl, by decide, B, fun H2 v n bs ps f2 B2 S2 okb okp hn lbs lps => ?_⟩
    walk_at "rd"
    refine ⟨b, c, cs, v, n, bs, ps, rfl, S2, okb, by omega, hn, B2, fun H3 l3 h3 f3 B3 e3 n3 lb3 => ?_⟩
    walk_at "rd"
    refine ⟨b, c, cs, l3, h3, rfl, e3, lb3, by omega, B3, fun H4 l4 h4 f4 B4 e4 n4 lb4 => ?_⟩
    have S4 := S2.ts ((B2.ts f3).trans (B3.ts f4))
    have e34 := f4.get lb3 e3
    walk_at "rd"
    rename_i p hp
    have S5 := S4.ts ((TS.refl H4).new hp (o := .lst [.ref l3, .ref l4, .ref l3]))
    have mem : ∀ x ∈ [V.ref l3, V.ref l4, V.ref l3], ∃ (l : Addr) (hs : List Int), x = .ref l ∧ (upd H4 p (.lst [.ref l3, .ref l4, .ref l3])) l = some (.lst (hs.map V.int)) ∧ hs.length = n := by
      intro x hx
      simp only [List.mem_cons, List.not_mem_nil, or_false] at hx
      rcases hx with rfl | rfl | rfl
      · exact ⟨_, h3, rfl, hp_new hp e34, n3⟩
      · exact ⟨_, h4, rfl, hp_new hp e4, by omega⟩
      · exact ⟨_, h3, rfl, hp_new hp e34, n3⟩
    refine for_list (K := K) (a := p) (xs := [.ref l3, .ref l4, .ref l3]) (fun i σ H' => ∃ (x5 x6 x7 : Option V), σ = [some (.ref a), some (.ref b), some v, some (.ref l3), some (.ref l4), x5, x6, x7] ∧ Same (upd H4 p (.lst [.ref l3, .ref l4, .ref l3])) H') ⟨none, none, none, rfl, fun _ _ e => e⟩ (fun i σ H' _ h => by obtain ⟨_, _, _, _, s⟩ := h; exact SqL.of (s _ _ upd_same)) ?_ ?_
    · rintro i x σ H6 hi ⟨x5, x6, x7, rfl, s6⟩
      obtain ⟨l, hs, rfl, el, hln⟩ := mem x (List.mem_of_getElem? hi)
      have S6 := S5.ts (.of_same s6)
      have el6 := s6 _ _ el
      walk_at "rd"
      rename_i t ht
      refine ⟨v, t, n, bs, ps, hs, rfl, S6.ts ((TS.refl H6).new ht), okb, by omega, upd_same, hln, fun H7 s7 => ?_⟩
      have s67 : Same H6 H7 := (same_upd ht).trans s7
      walk_at "rd"
      · exact absurd ‹(!true) = true› (by decide)
      · refine ⟨v, l, n, bs, ps, hs, rfl, S6.ts (.of_same s67), okb, by omega, s67 _ _ el6, hln, fun H8 s8 => ?_⟩
        have s68 : Same H6 H8 := s67.trans s8
        have el8 := s68 _ _ el6
        walk_at "rd"
        · exact absurd (all_filter (kb hs) bs) ‹_›
        · rename_i t2 ht2
          refine ⟨v, t2, n, bs, ps, hs, rfl, S6.ts ((TS.of_same s68).new ht2), okp, by omega, upd_same, hln, fun H9 s9 => ?_⟩
          have s69 : Same H6 H9 := (s68.trans (same_upd ht2)).trans s9
          walk_at "rd"
          refine ⟨_, rfl, ?_⟩
          walk_at "rd"
          · exact absurd ‹(!true) = true› (by decide)
          · refine ⟨v, l, n, bs, ps, hs, rfl, S6.ts (.of_same s69), okp, by omega, s69 _ _ el6, hln, ?_⟩
            walk_at "rd"
            · exact absurd rfl ‹_›
            · exact ⟨_, _, _, rfl, s6.trans s69⟩
    · rintro σ H6 ⟨x5, x6, x7, rfl, s6⟩
      walk_at "rd"
      exact q _
end
theorem all_mk {l : PySem.W.OpenLaw} {w : World} {K : PySem.W.Frag} {h : Heap} {mg : Str → Option Value} {fa f0 f1 f2 f3 f4 f5 f6 f7 f8 f9 f10 f11 f12 f13 f14 f15 : Addr} (X : K.In h) (G : h.Ns mainGlobals mg) (hfa : mg "law" = some (.ref fa))
    {od0 an0 od1 an1 od2 an2 od3 an3 od4 an4 od5 an5 od6 an6 od7 an7 od8 an8 od9 an9 od10 an10 od11 an11 od12 an12 od13 an13 od14 an14 od15 an15 : Option Addr} {sl0 sl1 sl2 sl3 sl4 sl5 sl6 sl7 sl8 sl9 sl10 sl11 sl12 sl13 sl14 sl15 : Array (Option Value)} {oc0 kV0 dc0 pm0 cd0 ct0 oc1 kV1 dc1 pm1 cd1 ct1 oc2 kV2 dc2 pm2 cd2 ct2 oc3 kV3 dc3 pm3 cd3 ct3 oc4 kV4 dc4 pm4 cd4 ct4 oc5 kV5 dc5 pm5 cd5 ct5 oc6 kV6 dc6 pm6 cd6 ct6 oc7 kV7 dc7 pm7 cd7 ct7 oc8 kV8 dc8 pm8 cd8 ct8 oc9 kV9 dc9 pm9 cd9 ct9 oc10 kV10 dc10 pm10 cd10 ct10 oc11 kV11 dc11 pm11 cd11 ct11 oc12 kV12 dc12 pm12 cd12 ct12 oc13 kV13 dc13 pm13 cd13 ct13 oc14 kV14 dc14 pm14 cd14 ct14 oc15 kV15 dc15 pm15 cd15 ct15 : Value}
    (a0 : PySem.W.nsIn K mainGlobals "keeps" = some (some (.ref f0))) (l0 : K.lookup f0 = some ⟨oc0, od0, .func (PySem.W.fnOf "keeps" "keeps" (defArgs s_keeps) (defBody s_keeps) (defScope s_keeps) .none kV0 dc0 pm0 an0 cd0 ct0), sl0⟩) (c0 : PySem.W.codeIn K cd0 "keeps" = true) (k0 : PySem.W.keepIn K (.ref f0) = true)
    (a1 : PySem.W.nsIn K mainGlobals "cost" = some (some (.ref f1))) (l1 : K.lookup f1 = some ⟨oc1, od1, .func (PySem.W.fnOf "cost" "cost" (defArgs s_cost) (defBody s_cost) (defScope s_cost) .none kV1 dc1 pm1 an1 cd1 ct1), sl1⟩) (c1 : PySem.W.codeIn K cd1 "cost" = true) (k1 : PySem.W.keepIn K (.ref f1) = true)
    (a2 : PySem.W.nsIn K mainGlobals "_law_bag" = some (some (.ref f2))) (l2 : K.lookup f2 = some ⟨oc2, od2, .func (PySem.W.fnOf "_law_bag" "_law_bag" (defArgs s_law_bag) (defBody s_law_bag) (defScope s_law_bag) .none kV2 dc2 pm2 an2 cd2 ct2), sl2⟩) (c2 : PySem.W.codeIn K cd2 "_law_bag" = true) (k2 : PySem.W.keepIn K (.ref f2) = true)
    (a3 : PySem.W.nsIn K mainGlobals "_law_draw" = some (some (.ref f3))) (l3 : K.lookup f3 = some ⟨oc3, od3, .func (PySem.W.fnOf "_law_draw" "_law_draw" (defArgs s_law_draw) (defBody s_law_draw) (defScope s_law_draw) .none kV3 dc3 pm3 an3 cd3 ct3), sl3⟩) (c3 : PySem.W.codeIn K cd3 "_law_draw" = true) (k3 : PySem.W.keepIn K (.ref f3) = true)
    (a4 : PySem.W.nsIn K mainGlobals "_law_whole" = some (some (.ref f4))) (l4 : K.lookup f4 = some ⟨oc4, od4, .func (PySem.W.fnOf "_law_whole" "_law_whole" (defArgs s_law_whole) (defBody s_law_whole) (defScope s_law_whole) .none kV4 dc4 pm4 an4 cd4 ct4), sl4⟩) (c4 : PySem.W.codeIn K cd4 "_law_whole" = true) (k4 : PySem.W.keepIn K (.ref f4) = true)
    (a5 : PySem.W.nsIn K mainGlobals "_law_gap" = some (some (.ref f5))) (l5 : K.lookup f5 = some ⟨oc5, od5, .func (PySem.W.fnOf "_law_gap" "_law_gap" (defArgs s_law_gap) (defBody s_law_gap) (defScope s_law_gap) .none kV5 dc5 pm5 an5 cd5 ct5), sl5⟩) (c5 : PySem.W.codeIn K cd5 "_law_gap" = true) (k5 : PySem.W.keepIn K (.ref f5) = true)
    (a6 : PySem.W.nsIn K mainGlobals "_law_ends" = some (some (.ref f6))) (l6 : K.lookup f6 = some ⟨oc6, od6, .func (PySem.W.fnOf "_law_ends" "_law_ends" (defArgs s_law_ends) (defBody s_law_ends) (defScope s_law_ends) .none kV6 dc6 pm6 an6 cd6 ct6), sl6⟩) (c6 : PySem.W.codeIn K cd6 "_law_ends" = true) (k6 : PySem.W.keepIn K (.ref f6) = true)
    (a7 : PySem.W.nsIn K mainGlobals "_law_doubled" = some (some (.ref f7))) (l7 : K.lookup f7 = some ⟨oc7, od7, .func (PySem.W.fnOf "_law_doubled" "_law_doubled" (defArgs s_law_doubled) (defBody s_law_doubled) (defScope s_law_doubled) .none kV7 dc7 pm7 an7 cd7 ct7), sl7⟩) (c7 : PySem.W.codeIn K cd7 "_law_doubled" = true) (k7 : PySem.W.keepIn K (.ref f7) = true)
    (a8 : PySem.W.nsIn K mainGlobals "_law_any_system" = some (some (.ref f8))) (l8 : K.lookup f8 = some ⟨oc8, od8, .func (PySem.W.fnOf "_law_any_system" "_law_any_system" (defArgs s_law_any_system) (defBody s_law_any_system) (defScope s_law_any_system) .none kV8 dc8 pm8 an8 cd8 ct8), sl8⟩) (c8 : PySem.W.codeIn K cd8 "_law_any_system" = true) (k8 : PySem.W.keepIn K (.ref f8) = true)
    (a9 : PySem.W.nsIn K mainGlobals "_law_climbed" = some (some (.ref f9))) (l9 : K.lookup f9 = some ⟨oc9, od9, .func (PySem.W.fnOf "_law_climbed" "_law_climbed" (defArgs s_law_climbed) (defBody s_law_climbed) (defScope s_law_climbed) .none kV9 dc9 pm9 an9 cd9 ct9), sl9⟩) (c9 : PySem.W.codeIn K cd9 "_law_climbed" = true) (k9 : PySem.W.keepIn K (.ref f9) = true)
    (a10 : PySem.W.nsIn K mainGlobals "_law_signed" = some (some (.ref f10))) (l10 : K.lookup f10 = some ⟨oc10, od10, .func (PySem.W.fnOf "_law_signed" "_law_signed" (defArgs s_law_signed) (defBody s_law_signed) (defScope s_law_signed) .none kV10 dc10 pm10 an10 cd10 ct10), sl10⟩) (c10 : PySem.W.codeIn K cd10 "_law_signed" = true) (k10 : PySem.W.keepIn K (.ref f10) = true)
    (a11 : PySem.W.nsIn K mainGlobals "_law_tall" = some (some (.ref f11))) (l11 : K.lookup f11 = some ⟨oc11, od11, .func (PySem.W.fnOf "_law_tall" "_law_tall" (defArgs s_law_tall) (defBody s_law_tall) (defScope s_law_tall) .none kV11 dc11 pm11 an11 cd11 ct11), sl11⟩) (c11 : PySem.W.codeIn K cd11 "_law_tall" = true) (k11 : PySem.W.keepIn K (.ref f11) = true)
    (a12 : PySem.W.nsIn K mainGlobals "_law_beside" = some (some (.ref f12))) (l12 : K.lookup f12 = some ⟨oc12, od12, .func (PySem.W.fnOf "_law_beside" "_law_beside" (defArgs s_law_beside) (defBody s_law_beside) (defScope s_law_beside) .none kV12 dc12 pm12 an12 cd12 ct12), sl12⟩) (c12 : PySem.W.codeIn K cd12 "_law_beside" = true) (k12 : PySem.W.keepIn K (.ref f12) = true)
    (a13 : PySem.W.nsIn K mainGlobals "_law_broken" = some (some (.ref f13))) (l13 : K.lookup f13 = some ⟨oc13, od13, .func (PySem.W.fnOf "_law_broken" "_law_broken" (defArgs s_law_broken) (defBody s_law_broken) (defScope s_law_broken) .none kV13 dc13 pm13 an13 cd13 ct13), sl13⟩) (c13 : PySem.W.codeIn K cd13 "_law_broken" = true) (k13 : PySem.W.keepIn K (.ref f13) = true)
    (a14 : PySem.W.nsIn K mainGlobals "_law_spent" = some (some (.ref f14))) (l14 : K.lookup f14 = some ⟨oc14, od14, .func (PySem.W.fnOf "_law_spent" "_law_spent" (defArgs s_law_spent) (defBody s_law_spent) (defScope s_law_spent) .none kV14 dc14 pm14 an14 cd14 ct14), sl14⟩) (c14 : PySem.W.codeIn K cd14 "_law_spent" = true) (k14 : PySem.W.keepIn K (.ref f14) = true)
    (a15 : PySem.W.nsIn K mainGlobals "law" = some (some (.ref f15))) (l15 : K.lookup f15 = some ⟨oc15, od15, .func (PySem.W.fnOf "law" "law" (defArgs s_law) (defBody s_law) (defScope s_law) .none kV15 dc15 pm15 an15 cd15 ct15), sl15⟩) (c15 : PySem.W.codeIn K cd15 "law" = true) (k15 : PySem.W.keepIn K (.ref f15) = true)
    (z_abs : PySem.W.nsIn K mainGlobals "abs" = some none)
    (z_all : PySem.W.nsIn K mainGlobals "all" = some none)
    (z_bool : PySem.W.nsIn K mainGlobals "bool" = some none)
    (z_int : PySem.W.nsIn K mainGlobals "int" = some none)
    (z_isinstance : PySem.W.nsIn K mainGlobals "isinstance" = some none)
    (z_len : PySem.W.nsIn K mainGlobals "len" = some none)
    (z_list : PySem.W.nsIn K mainGlobals "list" = some none)
    (z_max : PySem.W.nsIn K mainGlobals "max" = some none)
    (z_min : PySem.W.nsIn K mainGlobals "min" = some none)
    (z_range : PySem.W.nsIn K mainGlobals "range" = some none)
    (z_sum : PySem.W.nsIn K mainGlobals "sum" = some none)
    (z_tuple : PySem.W.nsIn K mainGlobals "tuple" = some none)
    : ∃ fd : FuncData, (∀ (s : Shared) (v : Value), BindsTo s fd ⟨[v], []⟩ [("script", v)]) ∧ ∀ base : Heap, K.In base → base.Ns mainGlobals mg → FnOk l.prog w K mg base CX0 4 fa fd ["script"] (spLaw K) := by
  have e := hfa.symm.trans (PySem.W.mg_of X G a15)
  cases e
  have F0 := fun_mk (st := s_keeps) l0 c0 k0
  have b0 := F0.binds (ps := ["system", "heights"]) fun _ _ _ _ _ _ us hl => match us, hl with | [_, _], _ => rfl
  have F1 := fun_mk (st := s_cost) l1 c1 k1
  have b1 := F1.binds (ps := ["system", "heights"]) fun _ _ _ _ _ _ us hl => match us, hl with | [_, _], _ => rfl
  have F2 := fun_mk (st := s_law_bag) l2 c2 k2
  have b2 := F2.binds (ps := ["script"]) fun _ _ _ _ _ _ us hl => match us, hl with | [_], _ => rfl
  have F3 := fun_mk (st := s_law_draw) l3 c3 k3
  have b3 := F3.binds (ps := ["bag", "many"]) fun _ _ _ _ _ _ us hl => match us, hl with | [_, _], _ => rfl
  have F4 := fun_mk (st := s_law_whole) l4 c4 k4
  have b4 := F4.binds (ps := ["got"]) fun _ _ _ _ _ _ us hl => match us, hl with | [_], _ => rfl
  have F5 := fun_mk (st := s_law_gap) l5 c5 k5
  have b5 := F5.binds (ps := ["bag"]) fun _ _ _ _ _ _ us hl => match us, hl with | [_], _ => rfl
  have F6 := fun_mk (st := s_law_ends) l6 c6 k6
  have b6 := F6.binds (ps := ["bag", "count"]) fun _ _ _ _ _ _ us hl => match us, hl with | [_, _], _ => rfl
  have F7 := fun_mk (st := s_law_doubled) l7 c7 k7
  have b7 := F7.binds (ps := ["bag", "rows"]) fun _ _ _ _ _ _ us hl => match us, hl with | [_, _], _ => rfl
  have F8 := fun_mk (st := s_law_any_system) l8 c8 k8
  have b8 := F8.binds (ps := ["bag", "most"]) fun _ _ _ _ _ _ us hl => match us, hl with | [_, _], _ => rfl
  have F9 := fun_mk (st := s_law_climbed) l9 c9 k9
  have b9 := F9.binds (ps := ["system", "begin"]) fun _ _ _ _ _ _ us hl => match us, hl with | [_, _], _ => rfl
  have F10 := fun_mk (st := s_law_signed) l10 c10 k10
  have b10 := F10.binds (ps := ["bag", "many"]) fun _ _ _ _ _ _ us hl => match us, hl with | [_, _], _ => rfl
  have F11 := fun_mk (st := s_law_tall) l11 c11 k11
  have b11 := F11.binds (ps := ["bag", "system"]) fun _ _ _ _ _ _ us hl => match us, hl with | [_, _], _ => rfl
  have F12 := fun_mk (st := s_law_beside) l12 c12 k12
  have b12 := F12.binds (ps := ["bag", "tall"]) fun _ _ _ _ _ _ us hl => match us, hl with | [_, _], _ => rfl
  have F13 := fun_mk (st := s_law_broken) l13 c13 k13
  have b13 := F13.binds (ps := ["system", "tall"]) fun _ _ _ _ _ _ us hl => match us, hl with | [_, _], _ => rfl
  have F14 := fun_mk (st := s_law_spent) l14 c14 k14
  have b14 := F14.binds (ps := ["system", "tall"]) fun _ _ _ _ _ _ us hl => match us, hl with | [_, _], _ => rfl
  have T : Txt K mg := { f_keeps := _, fd_keeps := _, F_keeps := F0, g_keeps := PySem.W.mg_of X G a0, b_keeps := b0, f_cost := _, fd_cost := _, F_cost := F1, g_cost := PySem.W.mg_of X G a1, b_cost := b1, f_law_bag := _, fd_law_bag := _, F_law_bag := F2, g_law_bag := PySem.W.mg_of X G a2, b_law_bag := b2, f_law_draw := _, fd_law_draw := _, F_law_draw := F3, g_law_draw := PySem.W.mg_of X G a3, b_law_draw := b3, f_law_whole := _, fd_law_whole := _, F_law_whole := F4, g_law_whole := PySem.W.mg_of X G a4, b_law_whole := b4, f_law_gap := _, fd_law_gap := _, F_law_gap := F5, g_law_gap := PySem.W.mg_of X G a5, b_law_gap := b5, f_law_ends := _, fd_law_ends := _, F_law_ends := F6, g_law_ends := PySem.W.mg_of X G a6, b_law_ends := b6, f_law_doubled := _, fd_law_doubled := _, F_law_doubled := F7, g_law_doubled := PySem.W.mg_of X G a7, b_law_doubled := b7, f_law_any_system := _, fd_law_any_system := _, F_law_any_system := F8, g_law_any_system := PySem.W.mg_of X G a8, b_law_any_system := b8, f_law_climbed := _, fd_law_climbed := _, F_law_climbed := F9, g_law_climbed := PySem.W.mg_of X G a9, b_law_climbed := b9, f_law_signed := _, fd_law_signed := _, F_law_signed := F10, g_law_signed := PySem.W.mg_of X G a10, b_law_signed := b10, f_law_tall := _, fd_law_tall := _, F_law_tall := F11, g_law_tall := PySem.W.mg_of X G a11, b_law_tall := b11, f_law_beside := _, fd_law_beside := _, F_law_beside := F12, g_law_beside := PySem.W.mg_of X G a12, b_law_beside := b12, f_law_broken := _, fd_law_broken := _, F_law_broken := F13, g_law_broken := PySem.W.mg_of X G a13, b_law_broken := b13, f_law_spent := _, fd_law_spent := _, F_law_spent := F14, g_law_spent := PySem.W.mg_of X G a14, b_law_spent := b14, n_abs := PySem.W.mg_none_of X G z_abs, n_all := PySem.W.mg_none_of X G z_all, n_bool := PySem.W.mg_none_of X G z_bool, n_int := PySem.W.mg_none_of X G z_int, n_isinstance := PySem.W.mg_none_of X G z_isinstance, n_len := PySem.W.mg_none_of X G z_len, n_list := PySem.W.mg_none_of X G z_list, n_max := PySem.W.mg_none_of X G z_max, n_min := PySem.W.mg_none_of X G z_min, n_range := PySem.W.mg_none_of X G z_range, n_sum := PySem.W.mg_none_of X G z_sum, n_tuple := PySem.W.mg_none_of X G z_tuple }
  exact ⟨PySem.W.fnOf "law" "law" (defArgs s_law) (defBody s_law) (defScope s_law) .none kV15 dc15 pm15 an15 cd15 ct15, fun s v => .of_eq rfl, fun base _ _ => ok_law T (fun_mk (st := s_law) l15 c15 k15)⟩
end K36
open PySem PySem.W PyProof.Rows
set_option maxHeartbeats 0 in
set_option maxRecDepth 100000 in
theorem PySem.Challenge.cw_drawnlayers_k36_kept_and_cost_holds : PySem.Challenge.rw_drawnlayers_k36_kept_and_cost.Holds := by
  w_on; o_law; k_head; (case hw => w_witness2)
  k_fill
  refine L2.walk_of (l := PySem.Challenge.rw_drawnlayers_k36_kept_and_cost) (n := 63) (k := 4) (x := "script") (CX := fun _ => L2.CX0) (sp := fun w => K36.spLaw _) rfl (by decide) rfl ⟨rfl, by decide, by decide⟩ (fun w h Y => PySem.W.kIn_of Y) ?F (fun _ _ a ns hl _ hS => ⟨a, ns, rfl, hS, hl, fun _ => rfl⟩) (fun _ _ _ _ _ z => z)
  case F =>
    intro w mg fa h KX G hmg
    refine' K36.all_mk KX G hmg ?a0 ?l0 ?c0 ?k0 ?a1 ?l1 ?c1 ?k1 ?a2 ?l2 ?c2 ?k2 ?a3 ?l3 ?c3 ?k3 ?a4 ?l4 ?c4 ?k4 ?a5 ?l5 ?c5 ?k5 ?a6 ?l6 ?c6 ?k6 ?a7 ?l7 ?c7 ?k7 ?a8 ?l8 ?c8 ?k8 ?a9 ?l9 ?c9 ?k9 ?a10 ?l10 ?c10 ?k10 ?a11 ?l11 ?c11 ?k11 ?a12 ?l12 ?c12 ?k12 ?a13 ?l13 ?c13 ?k13 ?a14 ?l14 ?c14 ?k14 ?a15 ?l15 ?c15 ?k15 ?z_abs ?z_all ?z_bool ?z_int ?z_isinstance ?z_len ?z_list ?z_max ?z_min ?z_range ?z_sum ?z_tuple
    (case a0 => k_is)
    (case l0 => k_is)
    (case c0 => k_is)
    (case k0 => k_is)
    (case a1 => k_is)
    (case l1 => k_is)
    (case c1 => k_is)
    (case k1 => k_is)
    (case a2 => k_is)
    (case l2 => k_is)
    (case c2 => k_is)
    (case k2 => k_is)
    (case a3 => k_is)
    (case l3 => k_is)
    (case c3 => k_is)
    (case k3 => k_is)
    (case a4 => k_is)
    (case l4 => k_is)
    (case c4 => k_is)
    (case k4 => k_is)
    (case a5 => k_is)
    (case l5 => k_is)
    (case c5 => k_is)
    (case k5 => k_is)
    (case a6 => k_is)
    (case l6 => k_is)
    (case c6 => k_is)
    (case k6 => k_is)
    (case a7 => k_is)
    (case l7 => k_is)
    (case c7 => k_is)
    (case k7 => k_is)
    (case a8 => k_is)
    (case l8 => k_is)
    (case c8 => k_is)
    (case k8 => k_is)
    (case a9 => k_is)
    (case l9 => k_is)
    (case c9 => k_is)
    (case k9 => k_is)
    (case a10 => k_is)
    (case l10 => k_is)
    (case c10 => k_is)
    (case k10 => k_is)
    (case a11 => k_is)
    (case l11 => k_is)
    (case c11 => k_is)
    (case k11 => k_is)
    (case a12 => k_is)
    (case l12 => k_is)
    (case c12 => k_is)
    (case k12 => k_is)
    (case a13 => k_is)
    (case l13 => k_is)
    (case c13 => k_is)
    (case k13 => k_is)
    (case a14 => k_is)
    (case l14 => k_is)
    (case c14 => k_is)
    (case k14 => k_is)
    (case a15 => k_is)
    (case l15 => k_is)
    (case c15 => k_is)
    (case k15 => k_is)
    (case z_abs => k_is)
    (case z_all => k_is)
    (case z_bool => k_is)
    (case z_int => k_is)
    (case z_isinstance => k_is)
    (case z_len => k_is)
    (case z_list => k_is)
    (case z_max => k_is)
    (case z_min => k_is)
    (case z_range => k_is)
    (case z_sum => k_is)
    (case z_tuple => k_is)
