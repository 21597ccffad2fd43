import PyProof.Rows.All
import Wide.All
import OpenK.AllK
import Wide.FinOn
import HandS.ForMost
import HandS.Wide
import HandS.IsInst
import HandS.Codes
import HandS.SortInts
import HandS.Defaults
import HandS.Style
import PySem.Challenge.RW_drawnlayers_k01_names_and_labels
set_option Elab.async false
set_option linter.all false
set_option maxRecDepth 100000
set_option maxHeartbeats 4000000
--! ROW drawnlayers_k01_names_and_labels
--! NS K01
--! _law_draw cut1 yes
--! is_name iter:word str
--! is_label iter:word str
--! _law_due iter:word str
--! _law_string cut1 yes
--! * iter:rows+rows[::-1] list
namespace D0
open PySem PySem.Spec PyProof.Rows L2
/-! ### operators by the shape of the values -/
def rAddD (K : PySem.W.Frag) : R2 := fun x y H Q => rI0 (fun i j => .int (i + j)) x y H Q ∨ (∃ i j, x = .str i ∧ y = .str j ∧ i.length + j.length ≤ sizeLine ∧ Q (.str (i ++ j)) H) ∨ rCat x y H Q ∨ rCatT K x y H Q
def rMulD : R2 := fun x y H Q => rI CMul (fun i j => .int (i * j)) x y H Q ∨ rRep x y H Q
def rLtD : R2 := rI0 fun i j => .bl (decide (i < j))
def rLeD : R2 := rI0 fun i j => .bl (decide (i ≤ j))
def rGtD : R2 := rI0 fun i j => .bl (decide (j < i))
def rGeD : R2 := rI0 fun i j => .bl (decide (j ≤ i))
def rSubD : R2 := rI0 fun i j => .int (i - j)
def rModD : R2 := rI (fun _ j => j ≠ 0) fun i j => .int (i.fmod j)
def rDivD : R2 := rI CDivW fun i j => .int (i / j)
def rPowD : R2 := rI CPow fun i j => .int (i ^ j.toNat)
def rStrIn (neg : Bool) : R2 := fun x y H Q => ∃ (c : Nat) (z : Str), x = .str ⟨#[c]⟩ ∧ y = .str z ∧ Q (.bl (if neg then !decide (c ∈ z.cps.toList) else decide (c ∈ z.cps.toList))) H
def rInD (K : PySem.W.Frag) (neg : Bool) : R2 := fun x y H Q => rIn K neg x y H Q ∨ rStrIn neg x y H Q
def rIxD (K : PySem.W.Frag) : R2 := fun x y H Q => rIxL K x y H Q ∨ rIxT K x y H Q ∨ rIxS x y H Q
def rIntD : List V → Hp → VK → Prop := fun xs H Q => (∃ i, xs = [.int i] ∧ Q (.int i) H) ∨ ∃ k, xs = [.bl k] ∧ Q (.int (if k then 1 else 0)) H
def rLenD (K : PySem.W.Frag) : List V → Hp → VK → Prop := fun xs H Q => ∃ x n, xs = [x] ∧ LenV K x H n ∧ Q (.int n) H
def rAbsD : List V → Hp → VK → Prop := fun xs H Q => ∃ i, xs = [.int i] ∧ Q (.int (if i < 0 then -i else i)) H
def rMax2D : List V → Hp → VK → Prop := fun xs H Q => ∃ i j, xs = [.int i, .int j] ∧ Q (.int (if j > i then j else i)) H
def rMin2D : List V → Hp → VK → Prop := fun xs H Q => ∃ i j, xs = [.int i, .int j] ∧ Q (.int (if j < i then j else i)) H
def rOrdD : List V → Hp → VK → Prop := fun xs H Q => ∃ x, xs = [.str x] ∧ x.length = 1 ∧ Q (.int (x.cps.getD 0 0 : Nat)) H
section
variable {X : Cx} (K : PySem.W.Frag)
theorem dAdd (hK : X.K = K := by rfl) : OpR X (binaryOp .Add) (rAddD K) := by subst hK; exact op_add.or (op_add_str.or (op_cat.or op_catT))
theorem dSub : OpR X (binaryOp .Sub) rSubD := op_sub
theorem dMul : OpR X (binaryOp .Mult) rMulD := op_mul.or op_rep
theorem dMod : OpR X (binaryOp .Mod) rModD := op_modN
theorem dDiv : OpR X (binaryOp .FloorDiv) rDivD := op_fdivW
theorem dPow : OpR X (binaryOp .Pow) rPowD := op_pow
theorem dLt : OpR X (compareOp .Lt) rLtD := op_lt
theorem dLe : OpR X (compareOp .LtE) rLeD := op_le
theorem dGt : OpR X (compareOp .Gt) rGtD := op_gt
theorem dGe : OpR X (compareOp .GtE) rGeD := op_ge
theorem dEq : OpR X (compareOp .Eq) rEq := op_eq
theorem dNe : OpR X (compareOp .NotEq) rNe := op_ne
theorem dIn (hK : X.K = K := by rfl) : OpR X (compareOp .In) (rInD K false) := by subst hK; exact op_in_seq.or op_in_sign
theorem dNin (hK : X.K = K := by rfl) : OpR X (compareOp .NotIn) (rInD K true) := by subst hK; exact op_notIn_seq.or op_notIn_sign
theorem dIx (hK : X.K = K := by rfl) : IxR X (rIxD K) := by subst hK; exact ix_list.or (ix_tup.or ix_str)
theorem dInt : CallR X (.type "int") rIntD := call_int1
theorem dLen (hK : X.K = K := by rfl) : CallR X (.builtin "len") (rLenD K) := by subst hK; exact call_len
theorem dAbs : CallR X (.builtin "abs") rAbsD := call_abs
theorem dMax2 (hc : X.calm = true) : CallR X (.builtin "max") rMax2D := call_max2 hc
theorem dMin2 (hc : X.calm = true) : CallR X (.builtin "min") rMin2D := call_min2 hc
theorem dOrd : CallR X (.builtin "ord") rOrdD := call_ord
theorem dSum (hc : X.calm = true) (hK : X.K = K := by rfl) : CallR X (.builtin "sum") (rSum K) := by subst hK; exact cr_sum hc
theorem dAll (hc : X.calm = true) (hK : X.K = K := by rfl) : CallR X (.builtin "all") (rAll K) := by subst hK; exact cr_all hc
theorem dAny (hc : X.calm = true) (hK : X.K = K := by rfl) : CallR X (.builtin "any") (rAny K) := by subst hK; exact cr_any hc
theorem dMax1 (hc : X.calm = true) (hK : X.K = K := by rfl) : CallR X (.builtin "max") (rMax K) := by subst hK; exact cr_max hc
theorem dMin1 (hc : X.calm = true) (hK : X.K = K := by rfl) : CallR X (.builtin "min") (rMin K) := by subst hK; exact cr_min hc
theorem dIsi (hK : X.K = K := by rfl) : CallR X (.builtin "isinstance") (rIsi K) := by subst hK; exact call_isi
theorem dpi_list {tg l : Expr} {tl : TE} (hl : PE X l tl) (hK : X.K = K := by rfl) : PI X tg l (iList K tl) := by subst hK; exact pi_list hl
theorem dpi_tup {tg l : Expr} {tl : TE} (hl : PE X l tl) (hK : X.K = K := by rfl) : PI X tg l (iTup K tl) := by subst hK; exact pi_tup hl
theorem dpg_tup {es : List Expr} {k : Nat} {t : TGs} {n : Nat} {pos : Pos} (hc : X.calm = true) (h : PGs X es t) (hK : X.K = K := by rfl)
    (hn : (assignEach es X.env).length = n := by rfl) (hst : (assignEach es X.env).findIdx? (·.1) = none := by rfl) : PG X (.Tuple es k pos) (gTup K n t) := by subst hK; exact pg_tup hc h hn hst
def rSlD : V → Option Int → Option Int → Hp → VK → Prop := fun x lo hi H Q => rSlL K x lo hi H Q ∨ rSlS x lo hi H Q
theorem SlRor {r r' : V → Option Int → Option Int → Hp → VK → Prop} (h : SlR X r) (h' : SlR X r') : SlR X (fun x lo hi H Q => r x lo hi H Q ∨ r' x lo hi H Q) := by
  intro pins s σ H x v vl vu lo hi sl Q I rx hs pl pu q
  rcases q with q | q
  · exact h pins s σ H x v vl vu lo hi sl Q I rx hs pl pu q
  · exact h' pins s σ H x v vl vu lo hi sl Q I rx hs pl pu q
theorem dSl (hK : X.K = K := by rfl) : SlR X (rSlD K) := by subst hK; exact SlRor sl_list sl_str
end
/-! ### the reading, head by head -/
section
variable {K : PySem.W.Frag} {σ : L2.St} {H : Hp} {Q : VK} {D : Ends} {ta tb tc te : TE} {t u : TT} {tr : TA} {v x y : V} {g : TG}
theorem rd_var {i : Nat} (h : σ[i]? = some (some v)) (q : Q v H) : tVar i σ H Q := ⟨v, h, q⟩
theorem rd_c (q : Q v H) : tC v σ H Q := q
theorem rd_op {r : R2} (q : ta σ H fun x H1 => tb σ H1 fun y H2 => r x y H2 Q) : tOp r ta tb σ H Q := q
theorem rd_un {r : V → Hp → VK → Prop} (q : ta σ H fun x H1 => r x H1 Q) : tUn r ta σ H Q := q
theorem rd_cb {r : List V → Hp → VK → Prop} (q : tr σ H fun vs H1 => r vs H1 Q) : tCB r tr σ H Q := q
theorem rd_cons {Q : List V → Hp → Prop} (q : ta σ H fun x H1 => tr σ H1 fun xs H2 => Q (x :: xs) H2) : tCons ta tr σ H Q := q
theorem rd_nil {Q : List V → Hp → Prop} (q : Q [] H) : tNil σ H Q := q
theorem rd_test {Q : Bool → Hp → Prop} (q : te σ H fun x H' => ∃ k, x = .bl k ∧ Q k H') : tTest te σ H Q := q
theorem rd_B {Q : Bool → Hp → Prop} (q : te σ H fun x H' => ∃ k, x = .bl k ∧ Q k H') : tB te σ H Q := q
theorem rd_bl {c : Bool} {P : Bool → Prop} (q : P c) : ∃ k, V.bl c = V.bl k ∧ P k := ⟨c, rfl, q⟩
theorem rd_and {Q : Bool → Hp → Prop} (q : t σ H fun c H1 => if c = true then u σ H1 Q else Q false H1) : tAnd t u σ H Q := q
theorem rd_or {Q : Bool → Hp → Prop} (q : t σ H fun c H1 => if c = true then Q true H1 else u σ H1 Q) : tOr t u σ H Q := q
theorem rd_not {Q : Bool → Hp → Prop} (q : t σ H fun c H1 => Q (!c) H1) : tNot t σ H Q := q
theorem rd_andV (q : ta σ H fun x H1 => ∃ c, x = .bl c ∧ if c = true then tb σ H1 Q else Q (.bl false) H1) : tAndV ta tb σ H Q := q
theorem rd_orV (q : ta σ H fun x H1 => ∃ c, x = .bl c ∧ if c = true then Q (.bl true) H1 else tb σ H1 Q) : tOrV ta tb σ H Q := q
theorem rd_notV (q : ta σ H fun x H1 => ∃ c, x = .bl c ∧ Q (.bl (!c)) H1) : tNotV ta σ H Q := q
theorem rd_ifE (q : t σ H fun c H1 => if c = true then ta σ H1 Q else tb σ H1 Q) : tIf t ta tb σ H Q := q
theorem rd_chain {r r' : R2} (q : ta σ H fun x H1 => tb σ H1 fun y H2 => r x y H2 fun z H3 => ∃ k, z = .bl k ∧ if k = true then (tc σ H3 fun a H4 => r' y a H4 Q) else Q (.bl false) H3) : tChain r r' ta tb tc σ H Q := q
theorem rd_seq {s1 s2 : TS} (q : s1 { D with nx := s2 D } σ H) : tSeq s1 s2 D σ H := q
theorem rd_next (q : D.nx σ H) : tNext D σ H := q
theorem rd_if {s1 s2 : TS} (q : t σ H fun b H1 => if b = true then s1 D σ H1 else s2 D σ H1) : tIfS t s1 s2 D σ H := q
theorem rd_asg (q : te σ H fun x H1 => g x σ H1 D.nx) : tAsg te g D σ H := q
theorem rd_gname {i : Nat} {Q : L2.St → Hp → Prop} (q : Q (σ.set i (some v)) H) : gName i v σ H Q := q
theorem rd_gsub {ti to : TE} {ts : TSet} {Q : L2.St → Hp → Prop} (q : to σ H fun o H1 => ti σ H1 fun i H2 => ts o i v H2 fun H3 => Q σ H3) : gSub to ti ts v σ H Q := q
theorem rd_drop (q : te σ H fun _ H1 => D.nx σ H1) : tDrop te D σ H := q
theorem rd_ret (q : te σ H D.rt) : tRet te D σ H := q
theorem rd_retN (q : D.rt .non H) : tRetN D σ H := q
theorem rd_brk (q : D.bk σ H) : tBreak D σ H := q
theorem rd_cnt (q : D.ct σ H) : tCont D σ H := q
theorem rd_tup {tr : TA} (q : tr σ H fun xs H1 => xs.length ≤ sizeLine ∧ ∀ p, H1 p = none → Q (.ref p) (upd H1 p (.tup xs))) : tTup tr σ H Q := q
theorem rd_lst {tr : TA} (q : tr σ H fun xs H1 => xs.length ≤ sizeLine ∧ ∀ p, H1 p = none → Q (.ref p) (upd H1 p (.lst xs))) : tLst tr σ H Q := q
theorem rd_BM {T : String} {r : V → List V → Hp → VK → Prop} (q : te σ H fun x H1 => tyV K T x H1 ∧ tr σ H1 fun vs H2 => r x vs H2 Q) : tBM K T r te tr σ H Q := q
theorem rd_M1 {r : V → List V → Hp → VK → Prop} (q : ta σ H fun x H1 => (∃ a, x = .str a) ∧ tb σ H1 fun y H2 => r x [y] H2 Q) : tM1 r ta tb σ H Q := q
theorem rd_M0 {r : V → List V → Hp → VK → Prop} (q : ta σ H fun x H1 => (∃ a, x = .str a) ∧ r x [] H1 Q) : tM0 r ta σ H Q := q
theorem rd_isS {a : Str} {P : Prop} (q : P) : (∃ b, V.str a = V.str b) ∧ P := ⟨⟨a, rfl⟩, q⟩
theorem rd_call {sp : Sp} {dvs : List V} {E : XK} (q : tr σ H fun vs H1 => sp (vs ++ dvs) H1 Q E) : tCall sp dvs E tr σ H Q := q
theorem rd_andB {b b' : Bool} (hb : ∀ Qe : VK, Qe (.bl b') H → tb σ H Qe) (q : Q (.bl (b && b')) H) : ∃ c, V.bl b = .bl c ∧ if c = true then tb σ H Q else Q (.bl false) H := by
  refine ⟨b, rfl, ?_⟩
  cases b
  · exact iteF q
  · exact iteT (hb _ q)
theorem rd_orB {b b' : Bool} (hb : ∀ Qe : VK, Qe (.bl b') H → tb σ H Qe) (q : Q (.bl (b || b')) H) : ∃ c, V.bl b = .bl c ∧ if c = true then Q (.bl true) H else tb σ H Q := by
  refine ⟨b, rfl, ?_⟩
  cases b
  · exact iteF (hb _ q)
  · exact iteT q
theorem rd_tyL {a : Addr} {xs : List V} {P : Prop} (h : SqL K H a xs) (q : P) : tyV K "list" (.ref a) H ∧ P := ⟨.inl ⟨rfl, _, h⟩, q⟩
theorem rd_tyS {z : Str} {P : Prop} (q : P) : tyV K "str" (.str z) H ∧ P := ⟨rfl, q⟩
theorem rd_gtup {n : Nat} {ts : TGs} {a : Addr} {xs : List V} {Q : L2.St → Hp → Prop} (h : SqT K H a xs) (hn : xs.length = n) (q : ts xs σ H Q) : gTup K n ts (.ref a) σ H Q := ⟨a, xs, rfl, h, hn, q⟩
theorem rd_gcons {ts : TGs} {vs : List V} {Q : L2.St → Hp → Prop} (q : g v σ H fun σ' H' => ts vs σ' H' Q) : gCons g ts (v :: vs) σ H Q := ⟨v, vs, rfl, q⟩
theorem rd_gnil {Q : L2.St → Hp → Prop} (q : Q σ H) : gNil [] σ H Q := ⟨rfl, q⟩
theorem rd_sl {r : V → Option Int → Option Int → Hp → VK → Prop} {tl th : TO} (q : te σ H fun x H1 => tl σ H1 fun l H2 => th σ H2 fun u H3 => r x l u H3 Q) : tSl r te tl th σ H Q := q
theorem rd_nopart {Q : Option Int → Hp → Prop} (q : Q none H) : tNoPart σ H Q := q
theorem rd_part {Q : Option Int → Hp → Prop} (q : te σ H fun x H1 => ∃ i, x = .int i ∧ Q (some i) H1) : tPart te σ H Q := q
theorem rd_ii {i : Int} {P : Int → Prop} (q : P i) : ∃ k, V.int i = V.int k ∧ P k := ⟨i, rfl, q⟩
-- values
theorem rv_addI {i j : Int} (q : Q (.int (i + j)) H) : rAddD K (.int i) (.int j) H Q := .inl ⟨i, j, rfl, rfl, q⟩
theorem rv_addS {i j : Str} (h : i.length + j.length ≤ sizeLine) (q : Q (.str (i ++ j)) H) : rAddD K (.str i) (.str j) H Q := .inr (.inl ⟨i, j, rfl, rfl, h, q⟩)
theorem rv_addL {a b : Addr} {xs ys : List V} (ha : H a = some (.lst xs)) (hb : H b = some (.lst ys)) (h : xs.length + ys.length ≤ sizeLine) (q : ∀ p, H p = none → Q (.ref p) (upd H p (.lst (xs ++ ys)))) : rAddD K (.ref a) (.ref b) H Q := .inr (.inr (.inl ⟨a, b, xs, ys, rfl, rfl, ha, hb, h, q⟩))
theorem rv_sub {i j : Int} (q : Q (.int (i - j)) H) : rSubD (.int i) (.int j) H Q := ⟨i, j, rfl, rfl, q⟩
theorem rv_mulI {i j : Int} (c : CMul i j) (q : Q (.int (i * j)) H) : rMulD (.int i) (.int j) H Q := .inl ⟨i, j, rfl, rfl, c, q⟩
theorem rv_rep {l : Addr} {k : Int} {xs : List V} (h : H l = some (.lst xs)) (c : -(2 ^ 63) ≤ k ∧ k < 2 ^ 63 ∧ xs.length * k.toNat ≤ sizeLine) (q : ∀ p, H p = none → Q (.ref p) (upd H p (.lst (List.replicate k.toNat xs).flatten))) : rMulD (.ref l) (.int k) H Q := .inr ⟨l, k, xs, rfl, rfl, h, c.1, c.2.1, c.2.2, q⟩
theorem rv_mod {i j : Int} (c : j ≠ 0) (q : Q (.int (i.fmod j)) H) : rModD (.int i) (.int j) H Q := ⟨i, j, rfl, rfl, c, q⟩
theorem rv_div {i j : Int} (c : CDivW i j) (q : Q (.int (i / j)) H) : rDivD (.int i) (.int j) H Q := ⟨i, j, rfl, rfl, c, q⟩
theorem rv_pow {i j : Int} (c : CPow i j) (q : Q (.int (i ^ j.toNat)) H) : rPowD (.int i) (.int j) H Q := ⟨i, j, rfl, rfl, c, q⟩
theorem rv_lt {i j : Int} (q : Q (.bl (decide (i < j))) H) : rLtD (.int i) (.int j) H Q := ⟨i, j, rfl, rfl, q⟩
theorem rv_le {i j : Int} (q : Q (.bl (decide (i ≤ j))) H) : rLeD (.int i) (.int j) H Q := ⟨i, j, rfl, rfl, q⟩
theorem rv_gt {i j : Int} (q : Q (.bl (decide (j < i))) H) : rGtD (.int i) (.int j) H Q := ⟨i, j, rfl, rfl, q⟩
theorem rv_ge {i j : Int} (q : Q (.bl (decide (j ≤ i))) H) : rGeD (.int i) (.int j) H Q := ⟨i, j, rfl, rfl, q⟩
theorem dec_int (i j : Int) : decide (V.int i = V.int j) = decide (i = j) := decide_eq_decide.mpr ⟨V.int.inj, fun e => by rw [e]⟩
theorem dec_str (i j : Str) : decide (V.str i = V.str j) = decide (i = j) := decide_eq_decide.mpr ⟨V.str.inj, fun e => by rw [e]⟩
theorem dec_bl (i j : Bool) : decide (V.bl i = V.bl j) = decide (i = j) := decide_eq_decide.mpr ⟨V.bl.inj, fun e => by rw [e]⟩
theorem rv_eqI {i j : Int} (q : Q (.bl (decide (i = j))) H) : rEq (.int i) (.int j) H Q := ⟨rfl, by rw [dec_int]; exact q⟩
theorem rv_eqS {i j : Str} (q : Q (.bl (decide (i = j))) H) : rEq (.str i) (.str j) H Q := ⟨rfl, by rw [dec_str]; exact q⟩
theorem rv_eqB {i j : Bool} (q : Q (.bl (decide (i = j))) H) : rEq (.bl i) (.bl j) H Q := ⟨rfl, by rw [dec_bl]; exact q⟩
theorem rv_neI {i j : Int} (q : Q (.bl (!decide (i = j))) H) : rNe (.int i) (.int j) H Q := ⟨rfl, by rw [dec_int]; exact q⟩
theorem rv_neS {i j : Str} (q : Q (.bl (!decide (i = j))) H) : rNe (.str i) (.str j) H Q := ⟨rfl, by rw [dec_str]; exact q⟩
theorem rv_neB {i j : Bool} (q : Q (.bl (!decide (i = j))) H) : rNe (.bl i) (.bl j) H Q := ⟨rfl, by rw [dec_bl]; exact q⟩
theorem rv_ixL {p : Addr} {xs : List V} {i : Int} (h : SqL K H p xs) (c : atI xs i = some v) (q : Q v H) : rIxD K (.ref p) (.int i) H Q := .inl ⟨p, xs, i, v, rfl, rfl, h, c, q⟩
theorem rv_ixT {p : Addr} {xs : List V} {i : Int} (h : SqT K H p xs) (c : atI xs i = some v) (q : Q v H) : rIxD K (.ref p) (.int i) H Q := .inr (.inl ⟨p, xs, i, v, rfl, rfl, h, c, q⟩)
theorem rv_ixS {z : Str} {i : Int} {c : Nat} (h : z.length ≤ sizeLine) (e : atI z.cps.toList i = some c) (q : Q (.str ⟨#[c]⟩) H) : rIxD K (.str z) (.int i) H Q := .inr (.inr ⟨z, i, c, rfl, rfl, h, e, q⟩)
theorem rv_inS {c : Nat} {z : Str} (q : Q (.bl (decide (c ∈ z.cps.toList))) H) : rInD K false (.str ⟨#[c]⟩) (.str z) H Q := .inr ⟨c, z, rfl, rfl, q⟩
theorem rv_ninS {c : Nat} {z : Str} (q : Q (.bl (!decide (c ∈ z.cps.toList))) H) : rInD K true (.str ⟨#[c]⟩) (.str z) H Q := .inr ⟨c, z, rfl, rfl, q⟩
theorem rv_inL {p : Addr} {xs : List V} (h : SqL K H p xs) (hx : flatV x = true) (hf : xs.all flatV = true) (q : Q (.bl (inV x xs)) H) : rInD K false x (.ref p) H Q := .inl ⟨p, xs, rfl, .inl h, hx, hf, q⟩
theorem rv_ninL {p : Addr} {xs : List V} (h : SqL K H p xs) (hx : flatV x = true) (hf : xs.all flatV = true) (q : Q (.bl (!inV x xs)) H) : rInD K true x (.ref p) H Q := .inl ⟨p, xs, rfl, .inl h, hx, hf, q⟩
theorem rv_all {p : Addr} {bs : List Bool} (h : SqL K H p (bs.map V.bl)) (q : Q (.bl (bs.all id)) H) : rAll K [.ref p] H Q := ⟨p, bs, rfl, h, q⟩
theorem rv_int {i : Int} (q : Q (.int i) H) : rIntD [.int i] H Q := .inl ⟨i, rfl, q⟩
theorem rv_lenL {p : Addr} {xs : List V} (h : SqL K H p xs) (q : Q (.int xs.length) H) : rLenD K [.ref p] H Q := ⟨_, _, rfl, .inl ⟨xs, h, rfl⟩, q⟩
theorem rv_lenT {p : Addr} {xs : List V} (h : SqT K H p xs) (q : Q (.int xs.length) H) : rLenD K [.ref p] H Q := ⟨_, _, rfl, .inr ⟨xs, h, rfl⟩, q⟩
theorem rv_lenS {z : Str} (h : z.length ≤ sizeLine) (q : Q (.int z.length) H) : rLenD K [.str z] H Q := ⟨_, _, rfl, ⟨h, rfl⟩, q⟩
theorem rv_abs {i : Int} (q : Q (.int (if i < 0 then -i else i)) H) : rAbsD [.int i] H Q := ⟨i, rfl, q⟩
theorem rv_max2 {i j : Int} (q : Q (.int (if j > i then j else i)) H) : rMax2D [.int i, .int j] H Q := ⟨i, j, rfl, q⟩
theorem rv_min2 {i j : Int} (q : Q (.int (if j < i then j else i)) H) : rMin2D [.int i, .int j] H Q := ⟨i, j, rfl, q⟩
theorem rv_ord {c : Nat} (q : Q (.int (c : Int)) H) : rOrdD [.str ⟨#[c]⟩] H Q := ⟨_, rfl, rfl, q⟩
theorem rv_setL {p : Addr} {xs : List V} {k : Int} {j : Nat} {Q : Hp → Prop} (h : H p = some (.lst xs)) (c : ixN xs.length k = some j) (q : Q (upd H p (.lst (xs.set j v)))) : rSetL (.ref p) (.int k) v H Q := ⟨p, xs, k, j, rfl, rfl, h, c, q⟩
theorem rv_app {l : Addr} {xs : List V} (h : H l = some (.lst xs)) (c : xs.length < sizeLine) (q : Q .non (upd H l (.lst (xs ++ [y])))) : rAppend (.ref l) [y] H Q := ⟨l, xs, y, rfl, rfl, h, c, q⟩
theorem rv_ext {l b : Addr} {xs zs : List V} (h : H l = some (.lst xs)) (h2 : H b = some (.lst zs)) (c : xs.length + zs.length ≤ sizeLine) (q : Q .non (upd H l (.lst (xs ++ zs)))) : rExtend (.ref l) [.ref b] H Q := ⟨l, b, xs, zs, rfl, rfl, h, h2, c, q⟩
theorem rv_slL {p : Addr} {xs : List V} {lo hi : Option Int} (h : SqL K H p xs) (q : ∀ a, H a = none → Q (.ref a) (upd H a (.lst (cutV xs lo hi)))) : rSlD K (.ref p) lo hi H Q := .inl ⟨p, xs, rfl, h, q⟩
theorem rv_slS {z : Str} {lo hi : Option Int} (h : z.length ≤ sizeLine) (q : Q (.str (cutS z lo hi)) H) : rSlD K (.str z) lo hi H Q := .inr ⟨z, rfl, h, q⟩
theorem rv_neg {i : Int} (q : Q (.int (-i)) H) : rU (fun i => .int (-i)) (.int i) H Q := ⟨i, rfl, q⟩
end
/-! ### heaps -/
theorem same_upd {H : Hp} {p : Addr} {o : HO} (h : H p = none) : Same H (upd H p o) := fun b x e => by
  rw [upd_ne (ne_of_none e h)]
  exact e
/-- all that stands elsewhere than at b is kept -/
def Off (b : Addr) (H H' : Hp) : Prop := ∀ a o, a ≠ b → H a = some o → H' a = some o
theorem Off.get {b : Addr} {H H' : Hp} {a : Addr} {o : HO} (h : Off b H H') (n : a ≠ b) (e : H a = some o) : H' a = some o := h a o n e
theorem Off.refl (b : Addr) (H : Hp) : Off b H H := fun _ _ _ e => e
theorem Off.trans {b : Addr} {H H1 H2 : Hp} (x : Off b H H1) (y : Off b H1 H2) : Off b H H2 := fun a o n e => y a o n (x a o n e)
theorem Off.new {b : Addr} {H H1 : Hp} {p : Addr} {o : HO} (x : Off b H H1) (h : H1 p = none) : Off b H (upd H1 p o) := fun a u n e => by
  have z := x a u n e
  rw [upd_ne (ne_of_none z h)]
  exact z
theorem Off.set {b : Addr} {H H1 : Hp} {o : HO} (x : Off b H H1) : Off b H (upd H1 b o) := fun a u n e => by
  rw [upd_ne n]
  exact x a u n e
theorem Off.mut {b : Addr} {H H1 : Hp} {p : Addr} {o : HO} (x : Off b H H1) (h : H p = none) : Off b H (upd H1 p o) := fun a u n e => by
  rw [upd_ne (ne_of_none e h)]
  exact x a u n e
theorem Off.of_same {b : Addr} {H H1 : Hp} (x : Same H H1) : Off b H H1 := fun a o _ e => x a o e
theorem Off.fresh {b : Addr} {H H1 : Hp} {p : Addr} (x : Off b H H1) (n : p ≠ b) (h : H1 p = none) : H p = none := by
  cases e : H p with
  | none => rfl
  | some o => rw [x p o n e] at h; cases h
theorem Off.seq {K : PySem.W.Frag} {b : Addr} {H H' : Hp} {a : Addr} {xs : List V} (h : Off b H H') (n : a ≠ b) (e : SqL K H a xs) : SqL K H' a xs := by
  rcases e with e | e
  · rcases e with e | ⟨o, e⟩
    · exact .inl (.inl (h a _ n e))
    · exact .inl (.inr ⟨o, h a _ n e⟩)
  · exact .inr e
theorem Off.seqT {K : PySem.W.Frag} {b : Addr} {H H' : Hp} {a : Addr} {xs : List V} (h : Off b H H') (n : a ≠ b) (e : SqT K H a xs) : SqT K H' a xs := by
  rcases e with e | e
  · rcases e with e | ⟨o, e⟩
    · exact .inl (.inl (h a _ n e))
    · exact .inl (.inr ⟨o, h a _ n e⟩)
  · exact .inr e
theorem sq_set {K : PySem.W.Frag} {H : Hp} {b c : Addr} {o : HO} {xs : List V} (n : c ≠ b) (e : SqL K H c xs) : SqL K (upd H b o) c xs := (Off.refl b H).set.seq n e
theorem sq_new {K : PySem.W.Frag} {H : Hp} {p c : Addr} {o : HO} {xs : List V} (n : H p = none) (e : SqL K H c xs) : SqL K (upd H p o) c xs := (same_upd n).seq e
theorem hp_set {H : Hp} {b a : Addr} {o : HO} {u : Option HO} (n : a ≠ b) (e : H a = u) : upd H b o a = u := (upd_ne n).trans e
theorem hp_new {H : Hp} {p a : Addr} {o u : HO} (n : H p = none) (e : H a = some u) : upd H p o a = some u := same_upd n _ _ e
/-! ### tests -/
theorem iteD {p A B : Prop} [Decidable p] (h1 : p → A) (h2 : ¬ p → B) : if decide p = true then A else B := by
  by_cases h : p
  · rw [if_pos (decide_eq_true h)]; exact h1 h
  · rw [if_neg (by simpa using h)]; exact h2 h
theorem iteND {p A B : Prop} [Decidable p] (h1 : ¬ p → A) (h2 : p → B) : if (!decide p) = true then A else B := by
  by_cases h : p
  · rw [if_neg (by simpa using h)]; exact h2 h
  · rw [if_pos (by simpa using h)]; exact h1 h
theorem iteB {b : Bool} {A B : Prop} (h1 : b = true → A) (h2 : b = false → B) : if b = true then A else B := by
  cases b
  · rw [if_neg Bool.false_ne_true]; exact h2 rfl
  · rw [if_pos rfl]; exact h1 rfl
/-! ### numbers -/
theorem sz4 {n : Nat} (h : n ≤ 100000) : n ≤ sizeLine := Nat.le_trans h (by decide)
theorem sz4' {n : Nat} (h : n ≤ 100000) : n < sizeLine := Nat.lt_of_le_of_lt h (by decide)
theorem at_ints {cs : List Int} {i : Int} (h0 : 0 ≤ i) (h1 : i < ((cs.map V.int).length : Int)) : atI (cs.map V.int) i = some (.int (cs.getD i.toNat 0)) := by
  obtain ⟨j, rfl⟩ := Int.eq_ofNat_of_zero_le h0
  have hl : j < cs.length := by rw [List.length_map] at h1; omega
  refine atI_nat ?_
  rw [List.getElem?_map, List.getElem?_eq_getElem hl]
  simp [List.getD_eq_getElem?_getD, hl]
theorem fm0 {x m : Int} (h : 0 < m) : 0 ≤ x.fmod m := by rw [Int.fmod_eq_emod_of_nonneg _ (by omega)]; exact Int.emod_nonneg _ (by omega)
theorem fm1 {x m : Int} (h : 0 < m) : x.fmod m < m := by rw [Int.fmod_eq_emod_of_nonneg _ (by omega)]; exact Int.emod_lt_of_pos _ h
theorem mul_fm {x c j : Int} (h : 0 < c) (h2 : c ≤ 2 ^ 64) : CMul (x.fmod c) j := .inl ⟨by have := fm0 (x := x) h; omega, by have := fm1 (x := x) h; omega⟩
theorem div_m {z m : Int} (h : 0 < m) (h2 : m < 2 ^ 1000) : CDivW z m := wide_div (b := 1000) h (by omega) (by decide) (by decide)
theorem div97 {z : Int} : CDivW z 97 := wide_div (b := 8) (by decide) (by decide) (by decide) (by decide)
theorem div3 {z : Int} : CDivW z 3 := wide_div (b := 8) (by decide) (by decide) (by decide) (by decide)
theorem div2 {z : Int} : CDivW z 2 := wide_div (b := 8) (by decide) (by decide) (by decide) (by decide)
/-! ### the bag of draws -/
def BagAt (b c : Addr) (cs : List Int) (H : Hp) : Prop := ∃ (i z s n k : Int), H b = some (.lst [.ref c, .int i, .int z, .int s, .int n, .int k]) ∧ c ≠ b ∧ H c = some (.lst (cs.map V.int)) ∧ 0 ≤ i ∧ 0 ≤ z
theorem BagAt.ne {b c : Addr} {cs : List Int} {H : Hp} {p : Addr} (x : BagAt b c cs H) (h : H p = none) : p ≠ b := by
  obtain ⟨i, z, s, n, k, e, _⟩ := x
  exact (ne_of_none e h).symm
theorem BagAt.ne2 {b c : Addr} {cs : List Int} {H : Hp} {p : Addr} (x : BagAt b c cs H) (h : H p = none) : p ≠ c := by
  obtain ⟨i, z, s, n, k, e, _, e2, _⟩ := x
  exact (ne_of_none e2 h).symm
theorem BagAt.put {b c : Addr} {cs : List Int} {H : Hp} {p : Addr} {o : HO} (x : BagAt b c cs H) (h : p ≠ b) (h2 : p ≠ c) : BagAt b c cs (upd H p o) := by
  obtain ⟨i, z, s, n, k, e, nc, hc, h1, h2'⟩ := x
  exact ⟨i, z, s, n, k, (upd_ne h.symm).trans e, nc, (upd_ne h2.symm).trans hc, h1, h2'⟩
theorem BagAt.new {b c : Addr} {cs : List Int} {H : Hp} {p : Addr} {o : HO} (x : BagAt b c cs H) (h : H p = none) : BagAt b c cs (upd H p o) := x.put (x.ne h) (x.ne2 h)
theorem BagAt.same {b c : Addr} {cs : List Int} {H H' : Hp} (x : BagAt b c cs H) (f : Same H H') : BagAt b c cs H' := by
  obtain ⟨i, z, s, n, k, e, nc, hc, h1, h2⟩ := x
  exact ⟨i, z, s, n, k, f _ _ e, nc, f _ _ hc, h1, h2⟩
def spDraw : Sp := fun vs H Q _ => ∃ (b c : Addr) (cs : List Int) (m : Int), vs = [.ref b, .int m] ∧ 0 < m ∧ m < 2 ^ 1000 ∧ BagAt b c cs H ∧ ∀ H' (r : Int), Off b H H' → BagAt b c cs H' → 0 ≤ r → r < m → Q (.int r) H'
def spBag (K : PySem.W.Frag) : Sp := fun vs H Q _ => ∃ (a : Addr) (ns : List Int), vs = [.ref a] ∧ SqL K H a (ns.map V.int) ∧ ns.length ≤ 63 ∧ ∀ H' b c cs, Same H H' → H b = none → BagAt b c cs H' → Q (.ref b) H'
theorem at_all {xs : List V} {P : V → Prop} (h : ∀ v ∈ xs, P v) {i : Int} (h0 : 0 ≤ i) (h1 : i < (xs.length : Int)) : ∃ v, atI xs i = some v ∧ P v := by
  obtain ⟨j, rfl⟩ := Int.eq_ofNat_of_zero_le h0
  have hl : j < xs.length := by omega
  exact ⟨xs[j], atI_nat (List.getElem?_eq_getElem hl), h _ (List.getElem_mem hl)⟩
theorem at_str {z : Str} {i : Int} (h0 : 0 ≤ i) (h1 : i < (z.length : Int)) : ∃ c, atI z.cps.toList i = some c ∧ c ∈ z.cps.toList := by
  obtain ⟨j, rfl⟩ := Int.eq_ofNat_of_zero_le h0
  have hl : j < z.cps.toList.length := by have : z.cps.toList.length = z.length := by simp [Str.length]
                                          omega
  exact ⟨z.cps.toList[j], atI_nat (List.getElem?_eq_getElem hl), List.getElem_mem hl⟩
end D0
namespace D0
open PySem PySem.Spec PyProof.Rows L2
section
variable {K : PySem.W.Frag} {σ : L2.St} {H : Hp} {Q : VK} {te tl : TE} {ta : TA} {vs : List Nat} {j : Nat}
theorem rd_yes {Q : Bool → Hp → Prop} (q : Q true H) : tYes σ H Q := q
theorem rd_callN {n m : Nat} {sp : Sp} {gV : List V → List V → List V} {E : XK} {t tk : TA} (q : t σ H fun vs H1 => tk σ H1 fun zs H2 => vs.length = n ∧ zs.length = m ∧ sp (gV vs zs) H2 Q E) : tCallN n m sp gV E t tk σ H Q := q
theorem rv_slSany {z : Str} {lo hi : Option Int} (h : z.length ≤ sizeLine) (q : ∀ y : Str, y.length ≤ z.length → Q (.str y) H) : rSlD K (.str z) lo hi H Q := rv_slS h (q _ (cutS_length z lo hi))
theorem ones (us : List Nat) : (us.map fun _ => 1).sum = us.length := by
  induction us with
  | nil => rfl
  | cons x r ih => rw [List.map_cons, List.sum_cons, ih, List.length_cons]; omega
theorem strlen_app (a b : Str) : (a ++ b).length = a.length + b.length := PySem.Str.length_append a b
theorem dRevL {X : Cx} (K : PySem.W.Frag) {e : Expr} {te : TE} {k : Nat} {p1 p2 p3 pos : Pos} (he : PE X e te) (hK : X.K = K := by rfl) : PE X (.Subscript e (.Slice none none (some (.UnaryOp .USub (.Constant (.int 1) k p1) p2)) p3) pos) (tRevL K te) := by subst hK; exact pe_revL he
theorem rd_revL (q : te σ H fun x H1 => ∃ a xs, x = .ref a ∧ SqL K H1 a xs ∧ ∀ p, H1 p = none → Q (.ref p) (upd H1 p (.lst xs.reverse))) : tRevL K te σ H Q := q
theorem rv_revL {a : Addr} {xs : List V} {R : Addr → List V → Prop} (h : SqL K H a xs) (q : R a xs) : ∃ a' xs', V.ref a = .ref a' ∧ SqL K H a' xs' ∧ R a' xs' := ⟨a, xs, rfl, h, q⟩
theorem rd_rng1 {R : It → Hp → Prop} (q : ta σ H fun vs H1 => ∃ j : Int, vs = [.int j] ∧ -(2 ^ 62) ≤ j ∧ j < 2 ^ 62 ∧ R (Itr 0 j.toNat) H1) : iRng1 ta σ H R := q
theorem rd_ss {z : Str} {P : Str → Prop} (q : P z) : ∃ k, V.str z = V.str k ∧ P k := ⟨z, rfl, q⟩
theorem rv_up {z : Str} {P : Str → Prop} (h : z.length ≤ 5592405) (q : P z) : ∃ a, V.str z = V.str a ∧ ([] : List V) = [] ∧ a.length ≤ 5592405 ∧ P a := ⟨z, rfl, rfl, h, q⟩
theorem rd_iList {R : It → Hp → Prop} (q : te σ H fun x H1 => ∃ a, x = .ref a ∧ (∃ xs, SqL K H1 a xs) ∧ R (Itl K a) H1) : iList K te σ H R := q
theorem rv_iL {a : Addr} {xs : List V} {R : Addr → Prop} (h : SqL K H a xs) (q : R a) : ∃ a', V.ref a = .ref a' ∧ (∃ xs, SqL K H a' xs) ∧ R a' := ⟨a, rfl, ⟨xs, h⟩, q⟩
theorem rd_for {wi : TI} {g : TG} {tb : TS} {D : Ends} (q : wi σ H fun J H1 => ∃ W : Nat → Nat → L2.St → Hp → Prop, (∃ m, W 0 m σ H1) ∧ ∀ i m σ H, W i m σ H →
    (J.stop i H ∧ D.nx σ H) ∨ (J.go i H ∧ ∃ N : L2.St → Hp → Prop, (∀ σ' H', N σ' H' → ∃ m', m' < m ∧ W (i + 1) m' σ' H') ∧ ∀ x H', J.yld i H x H' → g x σ H' fun σ2 H2 => tb { D with nx := N, ct := N, bk := D.nx } σ2 H2)) : tFor wi g tb D σ H := q
theorem rv_isiB {b : Bool} {ty : String} {r : Bool} (h : kitB "bool" ty = some r) (q : Q (.bl r) H) : rIsi K [.bl b, .ty ty] H Q := ⟨_, _, _, _, _, rfl, .ty ty, .base (.bl b), kit_ty h, q⟩
theorem rv_isiI {b : Int} {ty : String} {r : Bool} (h : kitB "int" ty = some r) (q : Q (.bl r) H) : rIsi K [.int b, .ty ty] H Q := ⟨_, _, _, _, _, rfl, .ty ty, .base (.int b), kit_ty h, q⟩
theorem rv_isiN {ty : String} {r : Bool} (h : kitB "NoneType" ty = some r) (q : Q (.bl r) H) : rIsi K [.non, .ty ty] H Q := ⟨_, _, _, _, _, rfl, .ty ty, .base .non, kit_ty h, q⟩
theorem rv_isiL {a : Addr} {xs : List V} {ty : String} {r : Bool} (e : H a = some (.lst xs)) (h : kitB "list" ty = some r) (q : Q (.bl r) H) : rIsi K [.ref a, .ty ty] H Q := ⟨_, _, _, _, _, rfl, .ty ty, .base (.lst e), kit_ty h, q⟩
theorem rv_isiT {a : Addr} {xs : List V} {ty : String} {r : Bool} (e : H a = some (.tup xs)) (h : kitB "tuple" ty = some r) (q : Q (.bl r) H) : rIsi K [.ref a, .ty ty] H Q := ⟨_, _, _, _, _, rfl, .ty ty, .base (.tup e), kit_ty h, q⟩
theorem rv_isiS {b : Str} {ty : String} {r : Bool} (h : kitB "str" ty = some r) (q : Q (.bl r) H) : rIsi K [.str b, .ty ty] H Q := ⟨_, _, _, _, _, rfl, .ty ty, .base (.str b), kit_ty h, q⟩
theorem isi_bool_bool : kitB "bool" "bool" = some true := by decide +kernel
theorem isi_bool_int : kitB "bool" "int" = some true := by decide +kernel
theorem isi_bool_str : kitB "bool" "str" = some false := by decide +kernel
theorem isi_bool_list : kitB "bool" "list" = some false := by decide +kernel
theorem isi_bool_tuple : kitB "bool" "tuple" = some false := by decide +kernel
theorem isi_bool_dict : kitB "bool" "dict" = some false := by decide +kernel
theorem isi_int_bool : kitB "int" "bool" = some false := by decide +kernel
theorem isi_int_int : kitB "int" "int" = some true := by decide +kernel
theorem isi_int_str : kitB "int" "str" = some false := by decide +kernel
theorem isi_int_list : kitB "int" "list" = some false := by decide +kernel
theorem isi_int_tuple : kitB "int" "tuple" = some false := by decide +kernel
theorem isi_int_dict : kitB "int" "dict" = some false := by decide +kernel
theorem isi_str_bool : kitB "str" "bool" = some false := by decide +kernel
theorem isi_str_int : kitB "str" "int" = some false := by decide +kernel
theorem isi_str_str : kitB "str" "str" = some true := by decide +kernel
theorem isi_str_list : kitB "str" "list" = some false := by decide +kernel
theorem isi_str_tuple : kitB "str" "tuple" = some false := by decide +kernel
theorem isi_str_dict : kitB "str" "dict" = some false := by decide +kernel
theorem isi_list_bool : kitB "list" "bool" = some false := by decide +kernel
theorem isi_list_int : kitB "list" "int" = some false := by decide +kernel
theorem isi_list_str : kitB "list" "str" = some false := by decide +kernel
theorem isi_list_list : kitB "list" "list" = some true := by decide +kernel
theorem isi_list_tuple : kitB "list" "tuple" = some false := by decide +kernel
theorem isi_list_dict : kitB "list" "dict" = some false := by decide +kernel
theorem isi_tuple_bool : kitB "tuple" "bool" = some false := by decide +kernel
theorem isi_tuple_int : kitB "tuple" "int" = some false := by decide +kernel
theorem isi_tuple_str : kitB "tuple" "str" = some false := by decide +kernel
theorem isi_tuple_list : kitB "tuple" "list" = some false := by decide +kernel
theorem isi_tuple_tuple : kitB "tuple" "tuple" = some true := by decide +kernel
theorem isi_tuple_dict : kitB "tuple" "dict" = some false := by decide +kernel
theorem isi_dict_bool : kitB "dict" "bool" = some false := by decide +kernel
theorem isi_dict_int : kitB "dict" "int" = some false := by decide +kernel
theorem isi_dict_str : kitB "dict" "str" = some false := by decide +kernel
theorem isi_dict_list : kitB "dict" "list" = some false := by decide +kernel
theorem isi_dict_tuple : kitB "dict" "tuple" = some false := by decide +kernel
theorem isi_dict_dict : kitB "dict" "dict" = some true := by decide +kernel
theorem isi_NoneType_bool : kitB "NoneType" "bool" = some false := by decide +kernel
theorem isi_NoneType_int : kitB "NoneType" "int" = some false := by decide +kernel
theorem isi_NoneType_str : kitB "NoneType" "str" = some false := by decide +kernel
theorem isi_NoneType_list : kitB "NoneType" "list" = some false := by decide +kernel
theorem isi_NoneType_tuple : kitB "NoneType" "tuple" = some false := by decide +kernel
theorem isi_NoneType_dict : kitB "NoneType" "dict" = some false := by decide +kernel
theorem upd_lst {H : Hp} {D : Addr} {o u : HO} : upd (upd H D o) D u = upd H D u := upd_upd
/-- [e for x in xs], e of x a value f x -/
theorem lc_map {a : Addr} {xs : List V} (f : V → V) (hl : ∀ Qe : VK, Qe (.ref a) H → tl σ H Qe) (hs : SqL K H a xs) (hz : xs.length < sizeLine) (hw : ∀ x, wipe ((wipe σ vs).set j (some x)) vs = wipe σ vs)
    (he : ∀ (i : Nat) (x : V) (H' : Hp), xs[i]? = some x → Same H H' → ∀ Qe : VK, (∀ H'', Same H' H'' → Qe (f x) H'') → te ((wipe σ vs).set j (some x)) H' Qe)
    (q : ∀ D H', H D = none → Same H H' → H' D = some (.lst (xs.map f)) → Q (.ref D) H') : tLc (iList K tl) (gName j) tYes te vs σ H Q := by
  refine hl _ ⟨a, rfl, ⟨_, hs⟩, fun D hD => ?_⟩
  refine lc_list (K := K) (a := a) (xs := xs) (fun i H' => Same H H' ∧ H' D = some (.lst ((xs.take i).map f))) ⟨same_upd hD, upd_same⟩ (fun i H' _ h => h.1.seq hs) ?_ ?_
  · rintro i x H' hx ⟨s, e⟩
    refine ⟨hw x, rd_yes (iteT ?_)⟩
    refine he i x H' hx s _ fun H'' s2 => ?_
    refine ⟨_, s2 _ _ e, ?_, ?_, ?_⟩
    · rw [List.length_map, List.length_take]; omega
    · intro b o eb
      have nb : b ≠ D := ne_of_none eb hD
      rw [upd_ne nb]
      exact s2 _ _ (s _ _ eb)
    · rw [upd_same, List.take_add_one, hx, List.map_append]; rfl
  · rintro H' ⟨s, e⟩
    rw [List.take_length] at e
    exact q D H' hD s e
/-- [e for k in range(n)], e drawing from the bag at b; every item has P -/
theorem lc_draw {b c : Addr} {cs : List Int} {n : Nat} (P : V → Prop) (hn : n ≤ 1000000) (hl : ∀ Qe : List V → Hp → Prop, Qe [.int (n : Int)] H → ta σ H Qe) (B : BagAt b c cs H) (hw : ∀ x, wipe ((wipe σ vs).set j (some x)) vs = wipe σ vs)
    (he : ∀ (i : Nat) (H' : Hp), i < n → Off b H H' → BagAt b c cs H' → ∀ Qe : VK, (∀ (y : V) (H'' : Hp), Off b H' H'' → BagAt b c cs H'' → P y → Qe y H'') → te ((wipe σ vs).set j (some (.int (i : Int)))) H' Qe)
    (q : ∀ D ys H', H D = none → Off b H H' → BagAt b c cs H' → H' D = some (.lst ys) → ys.length = n → (∀ y ∈ ys, P y) → Q (.ref D) H') : tLc (iRng1 ta) (gName j) tYes te vs σ H Q := by
  have hz : n < sizeLine := Nat.lt_of_le_of_lt hn (by decide)
  refine hl _ ⟨(n : Int), rfl, by omega, by omega, fun D hD => ?_⟩
  have hDb : D ≠ b := B.ne hD
  have hDc : D ≠ c := B.ne2 hD
  refine lc_range (lo := 0) (n := ((n : Int)).toNat) (fun i H' => ∃ ys : List V, Off b H H' ∧ BagAt b c cs H' ∧ H' D = some (.lst ys) ∧ ys.length = i ∧ ∀ y ∈ ys, P y) ⟨[], (Off.refl b H).new hD, B.new hD, upd_same, rfl, fun y h => nomatch h⟩ ?_ ?_
  · rintro i H' hi ⟨ys, f, B', e, el, hp⟩
    refine ⟨hw _, rd_yes (iteT ?_)⟩
    rw [show (0 : Int) + (i : Int) = (i : Int) by omega]
    refine he i H' (by omega) f B' _ fun y H'' f2 B2 py => ?_
    have e2 := f2.get hDb e
    refine ⟨_, e2, by omega, ys ++ [y], (f.trans f2).mut hD, B2.put hDb hDc, upd_same, by simp [el], ?_⟩
    intro y' hy
    rcases List.mem_append.mp hy with hy | hy
    · exact hp y' hy
    · rw [List.mem_singleton.mp hy]; exact py
  · rintro H' ⟨ys, f, B', e, el, hp⟩
    exact q D ys H' hD f B' e (by omega) hp
/-- [e for s in text], e of a sign a value f c -/
theorem lc_smap {z : Str} (f : Nat → V) (hl : ∀ Qe : VK, Qe (.str z) H → tl σ H Qe) (hz : z.length < sizeLine) (hw : ∀ x, wipe ((wipe σ vs).set j (some x)) vs = wipe σ vs)
    (he : ∀ (i : Nat) (c : Nat) (H' : Hp), z.cps[i]? = some c → Same H H' → ∀ Qe : VK, (∀ H'', Same H' H'' → Qe (f c) H'') → te ((wipe σ vs).set j (some (.str ⟨#[c]⟩))) H' Qe)
    (q : ∀ D H', H D = none → Same H H' → H' D = some (.lst (z.cps.toList.map f)) → Q (.ref D) H') : tLc (iStr tl) (gName j) tYes te vs σ H Q := by
  refine hl _ ⟨z, rfl, fun D hD => ?_⟩
  refine ⟨fun i m H' => i + m = z.cps.size ∧ Same H H' ∧ H' D = some (.lst ((z.cps.toList.take i).map f)), ⟨z.cps.size, by omega, same_upd hD, upd_same⟩, ?_⟩
  rintro i m H' ⟨em, s, e⟩
  by_cases hi : i < z.cps.size
  · refine .inr ⟨hi, fun H2 => Same H H2 ∧ H2 D = some (.lst ((z.cps.toList.take (i + 1)).map f)), fun H2 h2 => ⟨m - 1, by omega, by omega, h2.1, h2.2⟩, ?_⟩
    rintro x H2 ⟨rfl, c, hc, rfl⟩
    refine ⟨hw _, rd_yes (iteT ?_)⟩
    refine he i c H2 hc s _ fun H'' s2 => ?_
    refine ⟨_, s2 _ _ e, ?_, ?_, ?_⟩
    · rw [List.length_map, List.length_take]; show _ < sizeLine; have : z.length = z.cps.size := rfl; have : z.cps.toList.length = z.cps.size := by simp
      omega
    · intro b o eb
      have nb : b ≠ D := ne_of_none eb hD
      rw [upd_ne nb]
      exact s2 _ _ (s _ _ eb)
    · have hc' : z.cps.toList[i]? = some c := by rw [Array.getElem?_toList]; exact hc
      rw [upd_same, List.take_add_one, hc', List.map_append]; rfl
  · refine .inl ⟨by show z.cps.size ≤ i; omega, ?_⟩
    have ei : z.cps.toList.take i = z.cps.toList := List.take_of_length_le (by simp; omega)
    rw [ei] at e
    exact q D H' hD s e
end
end D0
namespace K01
open PySem PySem.Spec PyProof.Rows L2 D0
def topS (i : Nat) : Stmt := PySem.Challenge.pw_drawnlayers_k01_names_and_labels.main.body.getD i (.Pass ⟨0, 0, 0, 0⟩)
abbrev s_is_name : Stmt := topS 4
theorem sc_is_name : FnScope ["word", "sign"] ["word"] (defScope s_is_name) := ⟨rfl, rfl, rfl, by decide +kernel, rfl, by decide +kernel, by decide +kernel⟩
abbrev s_is_label : Stmt := topS 5
theorem sc_is_label : FnScope ["word", "plain", "sign"] ["word", "plain"] (defScope s_is_label) := ⟨rfl, rfl, rfl, by decide +kernel, rfl, by decide +kernel, by decide +kernel⟩
abbrev s_law_bag : Stmt := topS 7
theorem sc_law_bag : FnScope ["script", "cell"] ["script"] (defScope s_law_bag) := ⟨rfl, rfl, rfl, by decide +kernel, rfl, by decide +kernel, by decide +kernel⟩
abbrev s_law_draw : Stmt := topS 8
theorem sc_law_draw : FnScope ["bag", "many", "cell", "drawn", "first", "second", "third"] ["bag", "many"] (defScope s_law_draw) := ⟨rfl, rfl, rfl, by decide +kernel, rfl, by decide +kernel, by decide +kernel⟩
abbrev s_law_pick : Stmt := topS 9
theorem sc_law_pick : FnScope ["bag", "things"] ["bag", "things"] (defScope s_law_pick) := ⟨rfl, rfl, rfl, by decide +kernel, rfl, by decide +kernel, by decide +kernel⟩
abbrev s_law_all_signs : Stmt := topS 10
theorem sc_law_all_signs : FnScope [] [] (defScope s_law_all_signs) := ⟨rfl, rfl, rfl, by decide +kernel, rfl, by decide +kernel, by decide +kernel⟩
abbrev s_law_string : Stmt := topS 11
theorem sc_law_string : FnScope ["bag", "every", "letters", "common", "signs", "many", "word", "k", "at"] ["bag"] (defScope s_law_string) := ⟨rfl, rfl, rfl, by decide +kernel, rfl, by decide +kernel, by decide +kernel⟩
abbrev s_law_rank : Stmt := topS 12
theorem sc_law_rank : FnScope ["sign", "code"] ["sign"] (defScope s_law_rank) := ⟨rfl, rfl, rfl, by decide +kernel, rfl, by decide +kernel, by decide +kernel⟩
abbrev s_law_due : Stmt := topS 13
theorem sc_law_due : FnScope ["word", "worst", "sign", "short"] ["word"] (defScope s_law_due) := ⟨rfl, rfl, rfl, by decide +kernel, rfl, by decide +kernel, by decide +kernel⟩
abbrev s_law_told : Stmt := topS 14
theorem sc_law_told : FnScope ["word"] ["word"] (defScope s_law_told) := ⟨rfl, rfl, rfl, by decide +kernel, rfl, by decide +kernel, by decide +kernel⟩
abbrev s_law : Stmt := topS 15
theorem sc_law : FnScope ["script", "bag", "rows", "k", "word", "row", "told", "due"] ["script"] (defScope s_law) := ⟨rfl, rfl, rfl, by decide +kernel, rfl, by decide +kernel, by decide +kernel⟩
structure Txt (K : PySem.W.Frag) (mg : Str → Option Value) where
  f_is_name : Addr
  fd_is_name : FuncData
  F_is_name : Fun K "is_name" "is_name" s_is_name f_is_name fd_is_name
  g_is_name : mg "is_name" = some (.ref f_is_name)
  b_is_name : Binds K fd_is_name ["word"] []
  f_is_label : Addr
  fd_is_label : FuncData
  F_is_label : FunD K "is_label" "is_label" (defArgs s_is_label) (defBody s_is_label) (defScope s_is_label) [] [("plain", V.bl false)] f_is_label fd_is_label
  g_is_label : mg "is_label" = some (.ref f_is_label)
  ds_is_label : List Value
  dv_is_label : Vals [V.bl false] ds_is_label
  b_is_label : Binds K fd_is_label ["word", "plain"] ds_is_label
  kb_is_label : KBn K fd_is_label ["word", "plain"] 1 ["plain"] (fun us ws => us ++ ws) (fun vs zs => vs ++ zs)
  f_law_bag : Addr
  fd_law_bag : FuncData
  F_law_bag : Fun K "_law_bag" "_law_bag" s_law_bag f_law_bag fd_law_bag
  g_law_bag : mg "_law_bag" = some (.ref f_law_bag)
  b_law_bag : Binds K fd_law_bag ["script"] []
  f_law_draw : Addr
  fd_law_draw : FuncData
  F_law_draw : Fun K "_law_draw" "_law_draw" s_law_draw f_law_draw fd_law_draw
  g_law_draw : mg "_law_draw" = some (.ref f_law_draw)
  b_law_draw : Binds K fd_law_draw ["bag", "many"] []
  f_law_pick : Addr
  fd_law_pick : FuncData
  F_law_pick : Fun K "_law_pick" "_law_pick" s_law_pick f_law_pick fd_law_pick
  g_law_pick : mg "_law_pick" = some (.ref f_law_pick)
  b_law_pick : Binds K fd_law_pick ["bag", "things"] []
  f_law_all_signs : Addr
  fd_law_all_signs : FuncData
  F_law_all_signs : Fun K "_law_all_signs" "_law_all_signs" s_law_all_signs f_law_all_signs fd_law_all_signs
  g_law_all_signs : mg "_law_all_signs" = some (.ref f_law_all_signs)
  b_law_all_signs : Binds K fd_law_all_signs [] []
  f_law_string : Addr
  fd_law_string : FuncData
  F_law_string : Fun K "_law_string" "_law_string" s_law_string f_law_string fd_law_string
  g_law_string : mg "_law_string" = some (.ref f_law_string)
  b_law_string : Binds K fd_law_string ["bag"] []
  f_law_rank : Addr
  fd_law_rank : FuncData
  F_law_rank : Fun K "_law_rank" "_law_rank" s_law_rank f_law_rank fd_law_rank
  g_law_rank : mg "_law_rank" = some (.ref f_law_rank)
  b_law_rank : Binds K fd_law_rank ["sign"] []
  f_law_due : Addr
  fd_law_due : FuncData
  F_law_due : Fun K "_law_due" "_law_due" s_law_due f_law_due fd_law_due
  g_law_due : mg "_law_due" = some (.ref f_law_due)
  b_law_due : Binds K fd_law_due ["word"] []
  f_law_told : Addr
  fd_law_told : FuncData
  F_law_told : Fun K "_law_told" "_law_told" s_law_told f_law_told fd_law_told
  g_law_told : mg "_law_told" = some (.ref f_law_told)
  b_law_told : Binds K fd_law_told ["word"] []
  u_LONGEST_WORD : Value
  c_LONGEST_WORD : mg "LONGEST_WORD" = some u_LONGEST_WORD
  r_LONGEST_WORD : RelV (V.int 6) u_LONGEST_WORD
  u_SMALL_LETTERS : Value
  c_SMALL_LETTERS : mg "SMALL_LETTERS" = some u_SMALL_LETTERS
  r_SMALL_LETTERS : RelV (V.str "abcdefghijklmnopqrstuvwxyz") u_SMALL_LETTERS
  u_PLAIN_SIGNS : Value
  c_PLAIN_SIGNS : mg "PLAIN_SIGNS" = some u_PLAIN_SIGNS
  r_PLAIN_SIGNS : RelV (V.str "abcdefghijklmnopqrstuvwxyzABCDEFGHIJKLMNOPQRSTUVWXYZ0123456789._!?") u_PLAIN_SIGNS
  n_abs : mg "abs" = none
  n_all : mg "all" = none
  n_bool : mg "bool" = none
  n_int : mg "int" = none
  n_isinstance : mg "isinstance" = none
  n_len : mg "len" = none
  n_max : mg "max" = none
  n_ord : mg "ord" = none
  n_range : mg "range" = none
local macro_rules | `(tactic| walk_at "ne") => `(tactic| with_reducible first | assumption | (apply Ne.symm; assumption) | (refine' ne_of_none ?x ?h; (case h => assumption); (case x => walk_at "hp")) | (apply Ne.symm; refine' ne_of_none ?x ?h; (case h => assumption); (case x => walk_at "hp")) | (refine' BagAt.ne ?x ?h; (case h => assumption); (case x => assumption)) | (apply Ne.symm; refine' BagAt.ne ?x ?h; (case h => assumption); (case x => assumption)))
local macro_rules | `(tactic| walk_at "off") => `(tactic| with_reducible repeat' (first | assumption | exact Off.refl _ _ | apply Off.set | (refine' Off.new ?_ ?h; (case h => assumption)) | (refine' Off.trans ?_ ?f; (case f => assumption))))
local macro_rules | `(tactic| walk_at "hp") => `(tactic| with_reducible first | assumption | exact upd_same | (refine hp_new (by assumption) ?_; walk_at "hp") | (refine hp_set ?ne ?hp; (case ne => walk_at "ne"); (case hp => walk_at "hp")) | (refine' Off.get ?f ?ne ?hp; (case f => assumption); (case ne => walk_at "ne"); (case hp => walk_at "hp")))
local macro_rules | `(tactic| walk_at "sq") => `(tactic| with_reducible first | assumption | exact SqL.of (by walk_at "hp") | (refine sq_new (by assumption) ?_; walk_at "sq") | (refine sq_set ?ne ?sq; (case ne => walk_at "ne"); (case sq => walk_at "sq")) | (refine' Off.seq ?f ?ne ?sq; (case f => assumption); (case ne => walk_at "ne"); (case sq => walk_at "sq")))
/- straight-line steps of a reading -/
local macro_rules | `(tactic| walk_at "at") => `(tactic| first | assumption | rfl | exact at_ints (by omega) (by omega))
local macro_rules | `(tactic| walk_at "sz") => `(tactic| first | assumption | decide | exact sz4 (by omega) | exact sz4' (by omega) | (simp only [List.length_map, List.length_append, List.length_cons, List.length_nil]; first | exact sz4 (by omega) | exact sz4' (by omega) | omega))
local macro_rules | `(tactic| walk_at "mul") => `(tactic| first | exact .inr ⟨by decide, by decide⟩ | exact mul_fm (by decide) (by decide) | exact .inl ⟨by omega, by omega⟩ | exact .inr ⟨by omega, by omega⟩)
local macro_rules | `(tactic| walk_at "div") => `(tactic| with_reducible first | exact div97 | exact div3 | exact div2 | exact div_m (by assumption) (by assumption))
local macro_rules | `(tactic| walk_at "nz") => `(tactic| first | decide | omega)
local macro_rules | `(tactic| walk_at "rd") => `(tactic| repeat' walk_at "rd1")
local macro_rules | `(tactic| walk_at "rdA") => `(tactic| with_reducible first
  | refine rd_op ?_
  | refine rd_c ?_
  | refine rd_cb ?_
  | refine rd_cons ?_
  | refine rd_nil ?_
  | refine rd_bl ?_
  | refine rd_ii ?_
  | refine rd_M1 ?_
  | refine rd_M0 ?_
  | refine rd_isS ?_
  | refine rd_test ?_
  | refine rd_B ?_
  | refine rd_and ?_
  | refine rd_or ?_
  | refine rd_not ?_
  | refine rd_andV ?_
  | refine rd_orV ?_
  | refine rd_notV ?_
  | refine rd_ifE ?_
  | refine rd_chain ?_
  | refine rd_seq ?_
  | refine rd_if ?_
  | refine rd_asg ?_
  | refine rd_gname ?_
  | refine rd_gsub ?_
  | refine rd_drop ?_
  | refine rd_ret ?_
  | refine rd_retN ?_
  | refine rd_brk ?_
  | refine rd_cnt ?_
  | refine rd_next ?_
  | refine rd_tup ?_
  | refine rd_lst ?_
  | refine rd_BM ?_
  | refine rd_gcons ?_
  | refine rd_gnil ?_
  | refine rd_sl ?_
  | refine rd_nopart ?_
  | refine rd_part ?_
  | refine rd_un ?_
  | refine rd_call ?_
  | refine rd_callN ?_
  | refine rd_iList ?_
  | refine rd_for ?_
  | refine rd_rng1 ?_
  | refine rd_revL ?_
  | refine rv_addI ?_
  | refine rv_sub ?_
  | refine rv_lt ?_
  | refine rv_le ?_
  | refine rv_gt ?_
  | refine rv_ge ?_
  | refine rv_eqI ?_
  | refine rv_neI ?_
  | refine rv_eqS ?_
  | refine rv_eqB ?_
  | refine rv_neS ?_
  | refine rv_neB ?_
  | refine rv_int ?_
  | refine rv_inS ?_
  | refine rv_ninS ?_
  | refine rv_abs ?_
  | refine rv_max2 ?_
  | refine rv_min2 ?_
  | refine rv_ord ?_
  | refine rv_neg ?_
  | refine iteT ?_
  | refine iteF ?_
  | refine iteD (fun h => ?_) (fun h => ?_)
  | refine iteND (fun h => ?_) (fun h => ?_))
local macro_rules | `(tactic| walk_at "rd1") => `(tactic| first
  | ((with_reducible refine' rd_andB ?h ?_); (case h => (intro Qe hq; walk_at "rd"; exact hq)))
  | ((with_reducible refine' rd_orB ?h ?_); (case h => (intro Qe hq; walk_at "rd"; exact hq)))
  | walk_at "rdA"
  | ((with_reducible refine' rd_var ?h ?_); (case h => rfl))
  | ((with_reducible refine' rv_ixL ?h ?c ?_); (case h => walk_at "sq"); (case c => walk_at "at"))
  | ((with_reducible refine' rv_ixS ?h ?c ?_); (case h => walk_at "sz"); (case c => walk_at "at"))
  | ((with_reducible refine' rv_setL ?h ?c ?_); (case h => walk_at "hp"); (case c => rfl))
  | ((with_reducible refine' rv_mulI ?h ?_); (case h => walk_at "mul"))
  | ((with_reducible refine' rv_mod ?h ?_); (case h => walk_at "nz"))
  | ((with_reducible refine' rv_div ?h ?_); (case h => walk_at "div"))
  | ((with_reducible refine' rv_pow ?h ?_); (case h => exact ⟨by decide, by decide, by decide⟩))
  | ((with_reducible refine' rv_lenL ?h ?_); (case h => walk_at "sq"))
  | ((with_reducible refine' rv_lenS ?h ?_); (case h => walk_at "sz"))
  | ((with_reducible refine' rv_addS ?h ?_); (case h => walk_at "sz"))
  | ((with_reducible refine' rd_tyL ?h ?_); (case h => walk_at "sq"))
  | (with_reducible refine rd_tyS ?_)
  | ((with_reducible refine' rv_inL ?h ?hx ?hf ?_); (case h => walk_at "sq"); (case hx => rfl); (case hf => rfl))
  | ((with_reducible refine' rv_ninL ?h ?hx ?hf ?_); (case h => walk_at "sq"); (case hx => rfl); (case hf => rfl))
  | ((with_reducible refine' rv_all ?h ?_); (case h => walk_at "sq"))
  | ((with_reducible refine' rv_addL ?h1 ?h2 ?h3 (fun p hp => ?_)); (case h1 => walk_at "hp"); (case h2 => walk_at "hp"); (case h3 => walk_at "sz"))
  | (with_reducible refine iteB (fun h => ?_) (fun h => ?_))
  | (refine ⟨rfl, rfl, ?_⟩)
  | ((with_reducible refine' rv_up ?h ?_); (case h => omega))
  | ((with_reducible refine' rv_iL ?h ?_); (case h => walk_at "sq"))
  | ((with_reducible refine' rv_isiB ?h ?_); (case h => with_reducible first | exact isi_bool_bool | exact isi_bool_int | exact isi_bool_str | exact isi_bool_list | exact isi_bool_tuple | exact isi_bool_dict))
  | ((with_reducible refine' rv_isiI ?h ?_); (case h => with_reducible first | exact isi_int_bool | exact isi_int_int | exact isi_int_str | exact isi_int_list | exact isi_int_tuple | exact isi_int_dict))
  | ((with_reducible refine' rv_isiS ?h ?_); (case h => with_reducible first | exact isi_str_bool | exact isi_str_int | exact isi_str_str | exact isi_str_list | exact isi_str_tuple | exact isi_str_dict))
  | ((with_reducible refine' rv_isiN ?h ?_); (case h => with_reducible first | exact isi_NoneType_bool | exact isi_NoneType_int | exact isi_NoneType_str | exact isi_NoneType_list | exact isi_NoneType_tuple | exact isi_NoneType_dict))
  | ((with_reducible refine' rv_isiL ?e ?h ?_); (case e => walk_at "hp"); (case h => with_reducible first | exact isi_list_bool | exact isi_list_int | exact isi_list_str | exact isi_list_list | exact isi_list_tuple | exact isi_list_dict))
  | ((with_reducible refine' rv_isiT ?e ?h ?_); (case e => walk_at "hp"); (case h => with_reducible first | exact isi_tuple_bool | exact isi_tuple_int | exact isi_tuple_str | exact isi_tuple_list | exact isi_tuple_tuple | exact isi_tuple_dict))
  | ((with_reducible refine' rv_revL ?h ?_); (case h => walk_at "sq"))
  | (refine fun (p : Addr) (hp : _ = none) => ?_)
  | ((with_reducible refine' rv_slL ?h (fun p hp => ?_)); (case h => walk_at "sq"))
  | ((with_reducible refine' rv_slS ?h ?_); (case h => walk_at "sz"))
  | ((with_reducible refine' rv_ext ?h ?h2 ?c ?_); (case h => walk_at "hp"); (case h2 => walk_at "hp"); (case c => walk_at "sz"))
  | (refine ⟨(by simp only [List.length_cons, List.length_nil]; decide), fun p hp => ?_⟩)
  | ((with_reducible refine' rv_app ?h ?c ?_); (case h => walk_at "hp"); (case c => walk_at "sz"))
  )
local macro_rules | `(tactic| walk_at "bag") => `(tactic| first | assumption | exact ⟨_, _, _, _, _, upd_same, (by assumption), (by walk_at "hp"), (by omega), (by omega)⟩ | exact ⟨_, _, _, _, _, (by assumption), (by assumption), (by assumption), (by assumption), (by assumption)⟩ | (refine BagAt.new ?_ (by assumption); walk_at "bag") | (refine BagAt.put ?_ (by assumption) (by assumption); walk_at "bag"))

section
variable {P : Program} {w : World} {K : PySem.W.Frag} {mg : Str → Option Value} {base : Heap}
theorem ok_law_draw (T : Txt K mg) : FnOk P w K mg base CX0 1 T.f_law_draw T.fd_law_draw ["bag", "many"] spDraw := by
  refine T.F_law_draw.ok sc_law_draw (fun vs H Q E h => ?_) (fun cdv A outer s H vs Q E hr h => ?_)
  · obtain ⟨b, c, cs, m, rfl, _⟩ := h
    rfl
  · obtain ⟨b, c, cs, m, rfl, hm, hm9, B, q⟩ := h
    have p18 : (0 : Int) ≤ 10 ^ Int.toNat 18 := by decide
    refine ⟨_, (C8.pss_cut (ps_if (PW.pt (pw_and (pt_cmpR dEq (pe_ix (dIx K) (pv 0) pe_int (fun _ _ => rfl)) pe_int (nomark _)) (pw_and (pt_cmpR dEq (pe_ix (dIx K) (pv 0) pe_int (fun _ _ => rfl)) pe_int (nomark _)) (pw_and1 (pt_cmpR dLt (pe_ix (dIx K) (pv 0) pe_int (fun _ _ => rfl)) (pe_callB (dLen K) (by rfl) T.n_len (by decide +kernel) (pa_cons (pe_ix (dIx K) (pv 0) pe_int (fun _ _ => rfl)) pa_nil)) (nomark _))))))
    (pss_cons (ps_set (i := 2) sc_law_draw.nd rfl (by first | exact Or.inl rfl | exact Or.inr rfl) (pe_ix (dIx K) (pe_ix (dIx K) (pv 0) pe_int (fun _ _ => rfl)) (pe_ix (dIx K) (pv 0) pe_int (fun _ _ => rfl)) (fun _ _ => rfl)))
    (pss_cons (ps_asg (pe_op (dAdd K) (pe_ix (dIx K) (pv 0) pe_int (fun _ _ => rfl)) pe_int) (pg_sub (pv 0) pe_int set_list))
    (pss_one (ps_if (pt_cmpR dGe (pv 2) (pe_op dPow pe_int pe_int) (nomark _))
     (pss_one (ps_asg (pv 2) (pg_sub (pv 0) pe_int set_list)))
     (pss_cons (ps_asg (pe_op dMod (pe_callTy dInt (by rfl) T.n_int (by decide +kernel) (pa_cons (pe_op (dAdd K) (pe_op dMul (pe_ix (dIx K) (pv 0) pe_int (fun _ _ => rfl)) pe_int) (pv 2)) pa_nil)) pe_int) (pg_sub (pv 0) pe_int set_list))
     (pss_one (ps_asg pe_int (pg_sub (pv 0) pe_int set_list))))))))
    pss_nil)
   (pss_cons (ps_if (pt_cmpR dGt (pe_ix (dIx K) (pv 0) pe_int (fun _ _ => rfl)) pe_int (nomark _))
    (pss_cons (ps_set (i := 3) sc_law_draw.nd rfl (by first | exact Or.inl rfl | exact Or.inr rfl) (pe_op dMod (pe_callTy dInt (by rfl) T.n_int (by decide +kernel) (pa_cons (pe_ix (dIx K) (pv 0) pe_int (fun _ _ => rfl)) pa_nil)) (pv 1)))
    (pss_cons (ps_asg (pe_op dDiv (pe_ix (dIx K) (pv 0) pe_int (fun _ _ => rfl)) (pv 1)) (pg_sub (pv 0) pe_int set_list))
    (pss_one (ps_ret (pv 3)))))
    pss_nil)
   (pss_cons (ps_asg (pe_op (dAdd K) (pe_ix (dIx K) (pv 0) pe_int (fun _ _ => rfl)) pe_int) (pg_sub (pv 0) pe_int set_list))
   (pss_cons (ps_if (pt_cmpR dGt (pe_ix (dIx K) (pv 0) pe_int (fun _ _ => rfl)) pe_int (nomark _))
    (pss_one (ps_asg (pe_op dSub (pe_ix (dIx K) (pv 0) pe_int (fun _ _ => rfl)) pe_int) (pg_sub (pv 0) pe_int set_list)))
    pss_nil)
   (pss_cons (ps_set (i := 4) sc_law_draw.nd rfl (by first | exact Or.inl rfl | exact Or.inr rfl) (pe_op dMod (pe_callTy dInt (by rfl) T.n_int (by decide +kernel) (pa_cons (pe_op (dAdd K) (pe_op (dAdd K) (pe_op dMul (pe_ix (dIx K) (pv 0) pe_int (fun _ _ => rfl)) pe_int) (pe_op dMul (pe_ix (dIx K) (pv 0) pe_int (fun _ _ => rfl)) pe_int)) pe_int) pa_nil)) pe_int))
   (pss_cons (ps_set (i := 5) sc_law_draw.nd rfl (by first | exact Or.inl rfl | exact Or.inr rfl) (pe_op dMod (pe_callTy dInt (by rfl) T.n_int (by decide +kernel) (pa_cons (pe_op (dAdd K) (pe_op (dAdd K) (pe_op dMul (pv 4) (pv 4)) (pe_op dMul (pe_ix (dIx K) (pv 0) pe_int (fun _ _ => rfl)) pe_int)) pe_int) pa_nil)) pe_int))
   (pss_cons (ps_set (i := 6) sc_law_draw.nd rfl (by first | exact Or.inl rfl | exact Or.inr rfl) (pe_op dMod (pe_callTy dInt (by rfl) T.n_int (by decide +kernel) (pa_cons (pe_op (dAdd K) (pe_op dMul (pv 5) (pv 5)) (pe_op dDiv (pv 5) pe_int)) pa_nil)) pe_int))
   (pss_one (ps_ret (pe_op dMod (pe_callTy dInt (by rfl) T.n_int (by decide +kernel) (pa_cons (pe_op dDiv (pv 6) pe_int) pa_nil)) (pv 1))))))))))), ?_⟩
    refine ⟨fun σ H' => ∃ x, σ = [some (.ref b), some (.int m), x, none, none, none, none] ∧ Off b H H' ∧ BagAt b c cs H', ?_, ?_⟩
    · obtain ⟨i, z, s, n, k, hb, ncb, hc, hi, hz⟩ := id B
      walk_at "rd"
      all_goals exact ⟨_, rfl, by walk_at "off", by walk_at "bag"⟩
    · rintro σ H1 ⟨x, rfl, f1, i, z, s, n, k, hb, ncb, hc, hi, hz⟩
      have zdiv : 0 ≤ z / m := Int.ediv_nonneg hz (by omega)
      walk_at "rd"
      all_goals exact q _ _ (by walk_at "off") (by walk_at "bag") (fm0 hm) (fm1 hm)
theorem ok_law_bag (T : Txt K mg) : FnOk P w K mg base CX0 1 T.f_law_bag T.fd_law_bag ["script"] (spBag K) := by
  refine T.F_law_bag.ok sc_law_bag (fun vs H Q E h => ?_) (fun cdv A outer s H vs Q E hr h => ?_)
  · obtain ⟨a, ns, rfl, _⟩ := h
    rfl
  · obtain ⟨a, ns, rfl, hS, hl, q⟩ := h
    refine ⟨_, (pss_one (ps_ret (pe_lst (pa_cons (pe_lc (own := [("cell", 1)]) (g := gName 1) (tt := tYes) rfl sc_law_bag.nd  (dpi_list K (pv 0)) (blkOk_by (own := [("cell", 1)]) (N := ["script", "cell"]) (sc := defScope s_law_bag) (by decide +kernel)) (fun _ _ _ _ _ => (pg_name (i := 1) sc_law_bag.nd rfl (by first | exact Or.inl rfl | exact Or.inr rfl))) (fun _ _ _ _ _ => pts_nil) (fun _ _ _ _ _ => (pe_callB dAbs (by rfl) T.n_abs (by decide +kernel) (pa_cons (pe_callTy dInt (by rfl) T.n_int (by decide +kernel) (pa_cons (pv 1) pa_nil)) pa_nil)))) (pa_cons pe_int (pa_cons pe_int (pa_cons pe_int (pa_cons pe_int (pa_cons pe_int pa_nil))))))))), ?_⟩
    walk_at "rd"
    refine lc_map (a := a) (xs := ns.map V.int) (fun x => match x with | .int i => .int (if i < 0 then -i else i) | _ => x) (fun Qe h => ?_) hS (by rw [List.length_map]; exact Nat.lt_of_le_of_lt hl (by decide)) (fun _ => rfl) ?_ ?_
    · walk_at "rd"; exact h
    · intro i x H' hx s1 Qe hq
      obtain ⟨n, rfl⟩ : ∃ n, x = V.int n := by
        obtain ⟨n, _, e⟩ := List.mem_map.mp (List.mem_of_getElem? hx)
        exact ⟨n, e.symm⟩
      walk_at "rd"
      exact hq _ fun _ _ e => e
    · intro D H1 hD s1 e1
      have e2 : List.map (fun x => match x with | .int i => .int (if i < 0 then -i else i) | _ => x) (ns.map V.int) = (ns.map fun i => if i < 0 then -i else i).map V.int := by
        rw [List.map_map, List.map_map]; rfl
      rw [e2] at e1
      walk_at "rd"
      rename_i p hp
      refine q _ _ D _ (s1.trans (same_upd hp)) (s1.free hp) ⟨_, _, _, _, _, upd_same, ne_of_none e1 hp, hp_new hp e1, by omega, by omega⟩
end
def isName (z : Str) : Bool := decide (1 ≤ (z.length : Int)) && decide ((z.length : Int) ≤ 6) && z.cps.toList.all fun c => decide (97 ≤ c ∧ c ≤ 122)
def plainC (c : Nat) : Bool := decide ((97 ≤ c ∧ c ≤ 122) ∨ (65 ≤ c ∧ c ≤ 90) ∨ (48 ≤ c ∧ c ≤ 57) ∨ c = 46 ∨ c = 95 ∨ c = 33 ∨ c = 63)
def isLabel (z : Str) (p : Bool) : Bool := decide ((z.length : Int) ≤ 6) && z.cps.toList.all fun c => plainC c || (decide (c = 36) && !p)
def rank (c : Nat) : Int := if 97 ≤ c ∧ c ≤ 122 then 0 else if (97 ≤ c ∧ c ≤ 122) ∨ (65 ≤ c ∧ c ≤ 90) ∨ (48 ≤ c ∧ c ≤ 57) ∨ c = 46 ∨ c = 95 ∨ c = 33 ∨ c = 63 then 1 else if c = 36 then 2 else 3
theorem small_mem (c : Nat) : decide (c ∈ (("abcdefghijklmnopqrstuvwxyz" : Str)).cps.toList) = decide (97 ≤ c ∧ c ≤ 122) := by
  have e : (("abcdefghijklmnopqrstuvwxyz" : Str)).cps.toList = [97,98,99,100,101,102,103,104,105,106,107,108,109,110,111,112,113,114,115,116,117,118,119,120,121,122] := by decide +kernel
  rw [e]
  refine decide_eq_decide.mpr ?_
  simp only [List.mem_cons, List.not_mem_nil, or_false]
  omega
theorem plain_mem (c : Nat) : decide (c ∈ (("abcdefghijklmnopqrstuvwxyzABCDEFGHIJKLMNOPQRSTUVWXYZ0123456789._!?" : Str)).cps.toList) = plainC c := by
  have e : (("abcdefghijklmnopqrstuvwxyzABCDEFGHIJKLMNOPQRSTUVWXYZ0123456789._!?" : Str)).cps.toList = [97,98,99,100,101,102,103,104,105,106,107,108,109,110,111,112,113,114,115,116,117,118,119,120,121,122,65,66,67,68,69,70,71,72,73,74,75,76,77,78,79,80,81,82,83,84,85,86,87,88,89,90,48,49,50,51,52,53,54,55,56,57,46,95,33,63] := by decide +kernel
  rw [e]
  unfold plainC
  refine decide_eq_decide.mpr ?_
  simp only [List.mem_cons, List.not_mem_nil, or_false]
  omega
theorem sig36 (c : Nat) : ((⟨#[c]⟩ : Str) = Str.ofString "$") ↔ c = 36 := by
  have e : Str.ofString "$" = ⟨#[36]⟩ := by decide +kernel
  rw [e, Str.mk.injEq]
  simp
theorem inv4 (c : Nat) : inV (.str ⟨#[c]⟩) [.str (Str.ofString "."), .str (Str.ofString "_"), .str (Str.ofString "!"), .str (Str.ofString "?")] = decide (c = 46 ∨ c = 95 ∨ c = 33 ∨ c = 63) := by
  have e1 : Str.ofString "." = ⟨#[46]⟩ := by decide +kernel
  have e2 : Str.ofString "_" = ⟨#[95]⟩ := by decide +kernel
  have e3 : Str.ofString "!" = ⟨#[33]⟩ := by decide +kernel
  have e4 : Str.ofString "?" = ⟨#[63]⟩ := by decide +kernel
  have b : ∀ d : Nat, ((⟨#[d]⟩ : Str) == ⟨#[c]⟩) = decide (c = d) := fun d => by
    rw [Bool.eq_iff_iff, beq_iff_eq, decide_eq_true_eq, Str.mk.injEq]
    constructor
    · intro h; simpa using h.symm
    · intro h; rw [h]
  rw [e1, e2, e3, e4]
  simp only [inV, List.any_cons, List.any_nil, eqV, b, Bool.or_false, ← Bool.decide_or]
theorem rank_lt (c : Nat) (k : Int) : True := trivial
theorem r1 (c : Nat) : decide (rank c < 1) = decide (97 ≤ c ∧ c ≤ 122) := by
  refine decide_eq_decide.mpr ?_
  unfold rank; split <;> (try split) <;> (try split) <;> omega
theorem r2 (c : Nat) : decide (rank c < 2) = plainC c := by
  refine decide_eq_decide.mpr ?_
  unfold rank; split <;> (try split) <;> (try split) <;> omega
theorem r3 (c : Nat) : decide (rank c < 3) = (plainC c || decide (c = 36)) := by
  unfold plainC
  rw [← Bool.decide_or]
  refine decide_eq_decide.mpr ?_
  unfold rank; split <;> (try split) <;> (try split) <;> omega
theorem worst_lt {l : List Nat} {m : Int} (hm : m ∈ (0 : Int) :: l.map rank) (hle : ∀ y ∈ (0 : Int) :: l.map rank, y ≤ m) {k : Int} (hk : 0 < k) : decide (m < k) = l.all fun c => decide (rank c < k) := by
  rw [Bool.eq_iff_iff, decide_eq_true_eq, List.all_eq_true]
  constructor
  · intro h c hc
    have := hle (rank c) (List.mem_cons_of_mem _ (List.mem_map_of_mem hc))
    exact decide_eq_true (by omega)
  · intro h
    rcases List.mem_cons.mp hm with rfl | hm
    · exact hk
    · obtain ⟨c, hc, rfl⟩ := List.mem_map.mp hm
      exact of_decide_eq_true (h c hc)
theorem rank0 (c : Nat) : 0 ≤ rank c := by unfold rank; split <;> (try split) <;> (try split) <;> omega
def spName : Sp := fun vs H Q _ => ∃ z : Str, vs = [.str z] ∧ z.length ≤ 10000 ∧ ∀ H', Same H H' → Q (.bl (isName z)) H'
def spLabel : Sp := fun vs H Q _ => ∃ (z : Str) (p : Bool), vs = [.str z, .bl p] ∧ z.length ≤ 10000 ∧ ∀ H', Same H H' → Q (.bl (isLabel z p)) H'
def spRank : Sp := fun vs H Q _ => ∃ c : Nat, vs = [.str ⟨#[c]⟩] ∧ ∀ H', Same H H' → Q (.int (rank c)) H'
def spSigns : Sp := fun vs H Q _ => vs = [] ∧ ∀ z : Str, 0 < z.length → z.length ≤ 100 → Q (.str z) H
def spPick : Sp := fun vs H Q _ => ∃ (b c : Addr) (cs : List Int) (z : Str), vs = [.ref b, .str z] ∧ 0 < z.length ∧ z.length ≤ 1000 ∧ BagAt b c cs H ∧ ∀ H' u, Off b H H' → BagAt b c cs H' → Q (.str ⟨#[u]⟩) H'
section
variable {P : Program} {w : World} {K : PySem.W.Frag} {mg : Str → Option Value} {base : Heap}
theorem ok_is_name (T : Txt K mg) : FnOk P w K mg base CX0 1 T.f_is_name T.fd_is_name ["word"] spName := by
  refine T.F_is_name.ok sc_is_name (fun vs H Q E h => ?_) (fun cdv A outer s H vs Q E hr h => ?_)
  · obtain ⟨z, rfl, _⟩ := h
    rfl
  · obtain ⟨z, rfl, hz, q⟩ := h
    have hs : z.length ≤ sizeLine := sz4 (by omega)
    refine ⟨_, (pss_one (ps_ret (pe_and (pe_chain dLe dLe pe_int (pe_callB (dLen K) (by rfl) T.n_len (by decide +kernel) (pa_cons (pv 0) pa_nil)) (pe_glob (by rfl) T.c_LONGEST_WORD T.r_LONGEST_WORD)) (pe_one (pe_callB (dAll K rfl) (by rfl) T.n_all (by decide +kernel) (pa_cons (pe_lc (own := [("sign", 1)]) (g := gName 1) (tt := tYes) rfl sc_is_name.nd  (pi_str (pv 0)) (blkOk_by (own := [("sign", 1)]) (N := ["word", "sign"]) (sc := defScope s_is_name) (by decide +kernel)) (fun _ _ _ _ _ => (pg_name (i := 1) sc_is_name.nd rfl (by first | exact Or.inl rfl | exact Or.inr rfl))) (fun _ _ _ _ _ => pts_nil) (fun _ _ _ _ _ => (pe_cmpR (dIn K) (pv 1) (pe_glob (by rfl) T.c_SMALL_LETTERS T.r_SMALL_LETTERS) (by rfl)))) pa_nil)))))), ?_⟩
    walk_at "rd"
    · rename_i h1 h2
      refine lc_smap (z := z) (fun c => .bl (decide (97 ≤ c ∧ c ≤ 122))) (fun Qe h => ?_) (sz4' (by omega)) (fun _ => rfl) ?_ ?_
      · walk_at "rd"; exact h
      · intro i c H' hc s1 Qe hq
        walk_at "rd"
        rw [small_mem]
        exact hq _ fun _ _ e => e
      · intro D H1 hD s1 e1
        have e2 : z.cps.toList.map (fun c => V.bl (decide (97 ≤ c ∧ c ≤ 122))) = (z.cps.toList.map fun c => decide (97 ≤ c ∧ c ≤ 122)).map V.bl := by rw [List.map_map]; rfl
        rw [e2] at e1
        walk_at "rd"
        have := q H1 s1
        unfold isName at this
        rw [decide_eq_true h1, decide_eq_true h2, Bool.and_self, Bool.true_and] at this
        rw [List.all_map]
        exact this
    · rename_i h1 h2
      have := q H (fun _ _ e => e)
      unfold isName at this
      rw [decide_eq_false h2, Bool.and_false, Bool.false_and] at this
      exact this
    · rename_i h1
      have := q H (fun _ _ e => e)
      unfold isName at this
      rw [decide_eq_false h1, Bool.false_and, Bool.false_and] at this
      exact this
theorem ok_is_label (T : Txt K mg) : FnOk P w K mg base CX0 1 T.f_is_label T.fd_is_label ["word", "plain"] spLabel := by
  refine T.F_is_label.ok sc_is_label (fun vs H Q E h => ?_) (fun cdv A outer s H vs Q E hr h => ?_)
  · obtain ⟨z, p, rfl, _⟩ := h
    rfl
  · obtain ⟨z, p, rfl, hz, q⟩ := h
    have hs : z.length ≤ sizeLine := sz4 (by omega)
    refine ⟨_, (pss_cons (ps_if (pt_cmpR dGt (pe_callB (dLen K) (by rfl) T.n_len (by decide +kernel) (pa_cons (pv 0) pa_nil)) (pe_glob (by rfl) T.c_LONGEST_WORD T.r_LONGEST_WORD) (nomark _))
    (pss_one (ps_ret pe_bl))
    pss_nil)
   (pss_one (ps_ret (pe_callB (dAll K rfl) (by rfl) T.n_all (by decide +kernel) (pa_cons (pe_lc (own := [("sign", 2)]) (g := gName 2) (tt := tYes) rfl sc_is_label.nd  (pi_str (pv 0)) (blkOk_by (own := [("sign", 2)]) (N := ["word", "plain", "sign"]) (sc := defScope s_is_label) (by decide +kernel)) (fun _ _ _ _ _ => (pg_name (i := 2) sc_is_label.nd rfl (by first | exact Or.inl rfl | exact Or.inr rfl))) (fun _ _ _ _ _ => pts_nil) (fun _ _ _ _ _ => (pe_or (pe_cmpR (dIn K) (pv 2) (pe_glob (by rfl) T.c_PLAIN_SIGNS T.r_PLAIN_SIGNS) (by rfl)) (pe_one (pe_and (pe_cmpR dEq (pv 2) pe_str (nomark _)) (pe_one (pe_not (pv 1)))))))) pa_nil))))), ?_⟩
    walk_at "rd"
    · rename_i h1
      have := q H (fun _ _ e => e)
      unfold isLabel at this
      rw [decide_eq_false (by omega), Bool.false_and] at this
      exact this
    · rename_i h1
      refine lc_smap (z := z) (fun c => .bl (plainC c || (decide (c = 36) && !p))) (fun Qe h => ?_) (sz4' (by omega)) (fun _ => rfl) ?_ ?_
      · walk_at "rd"; exact h
      · intro i c H' hc s1 Qe hq
        walk_at "rd"
        rw [plain_mem, show decide ((⟨#[c]⟩ : Str) = Str.ofString "$") = decide (c = 36) from decide_eq_decide.mpr (sig36 c)]
        exact hq _ fun _ _ e => e
      · intro D H1 hD s1 e1
        have e2 : z.cps.toList.map (fun c => V.bl (plainC c || (decide (c = 36) && !p))) = (z.cps.toList.map fun c => plainC c || (decide (c = 36) && !p)).map V.bl := by rw [List.map_map]; rfl
        rw [e2] at e1
        walk_at "rd"
        have := q H1 s1
        unfold isLabel at this
        rw [decide_eq_true (by omega), Bool.true_and] at this
        rw [List.all_map]
        exact this
theorem ok_law_rank (T : Txt K mg) : FnOk P w K mg base CX0 1 T.f_law_rank T.fd_law_rank ["sign"] spRank := by
  refine T.F_law_rank.ok sc_law_rank (fun vs H Q E h => ?_) (fun cdv A outer s H vs Q E hr h => ?_)
  · obtain ⟨c, rfl, _⟩ := h
    rfl
  · obtain ⟨c, rfl, q⟩ := h
    refine ⟨_, (pss_cons (ps_set (i := 1) sc_law_rank.nd rfl (by first | exact Or.inl rfl | exact Or.inr rfl) (pe_callB dOrd (by rfl) T.n_ord (by decide +kernel) (pa_cons (pv 0) pa_nil)))
   (pss_cons (ps_if (pt_chain dLe dLe pe_int (pv 1) pe_int)
    (pss_one (ps_ret pe_int))
    pss_nil)
   (pss_cons (ps_if (PW.pt (pw_or (pt_chain dLe dLe pe_int (pv 1) pe_int) (pw_or (pt_chain dLe dLe pe_int (pv 1) pe_int) (pw_or1 (pt_cmpR (dIn K) (pv 0) (pe_lst (pa_cons pe_str (pa_cons pe_str (pa_cons pe_str (pa_cons pe_str pa_nil))))) (by rfl))))))
    (pss_one (ps_ret pe_int))
    pss_nil)
   (pss_cons (ps_if (pt_cmpR dEq (pv 0) pe_str (nomark _))
    (pss_one (ps_ret pe_int))
    pss_nil)
   (pss_one (ps_ret pe_int)))))), ?_⟩
    walk_at "rd"
    all_goals simp only [inv4, sig36, decide_eq_true_eq, decide_eq_false_iff_not] at *
    all_goals first
      | (have e : rank c = 0 := by (unfold rank; rw [if_pos (by omega)])
         rw [e] at q; exact q _ (by first | exact fun _ _ e => e | exact same_upd (by assumption)))
      | (have e : rank c = 1 := by (unfold rank; rw [if_neg (by omega), if_pos (by omega)])
         rw [e] at q; exact q _ (by first | exact fun _ _ e => e | exact same_upd (by assumption)))
      | (have e : rank c = 2 := by (unfold rank; rw [if_neg (by omega), if_neg (by omega), if_pos (by omega)])
         rw [e] at q; exact q _ (by first | exact fun _ _ e => e | exact same_upd (by assumption)))
      | (have e : rank c = 3 := by (unfold rank; rw [if_neg (by omega), if_neg (by omega), if_neg (by omega)])
         rw [e] at q; exact q _ (by first | exact fun _ _ e => e | exact same_upd (by assumption)))
theorem ok_law_all_signs (T : Txt K mg) : FnOk P w K mg base CX0 1 T.f_law_all_signs T.fd_law_all_signs [] spSigns := by
  refine T.F_law_all_signs.ok sc_law_all_signs (fun vs H Q E h => ?_) (fun cdv A outer s H vs Q E hr h => ?_)
  · rw [h.1]; rfl
  · obtain ⟨rfl, q⟩ := h
    refine ⟨_, (pss_one (ps_ret pe_str)), ?_⟩
    walk_at "rd"
    exact q _ (by decide +kernel) (by decide +kernel)
theorem ok_law_pick (T : Txt K mg) : FnOk P w K mg base CX0 2 T.f_law_pick T.fd_law_pick ["bag", "things"] spPick := by
  refine T.F_law_pick.ok sc_law_pick (fun vs H Q E h => ?_) (fun cdv A outer s H vs Q E hr h => ?_)
  · obtain ⟨b, c, cs, z, rfl, _⟩ := h
    rfl
  · obtain ⟨b, c, cs, z, rfl, h0, h1, B, q⟩ := h
    have hs : z.length ≤ sizeLine := sz4 (by omega)
    refine ⟨_, (pss_one (ps_ret (pe_ix (dIx K) (pv 1) (pe_call (ok_law_draw T) (hr.mono (by decide)) (by rfl) T.g_law_draw T.F_law_draw.kp T.b_law_draw .nil pass0 (pa_cons (pv 0) (pa_cons (pe_callB (dLen K) (by rfl) T.n_len (by decide +kernel) (pa_cons (pv 1) pa_nil)) pa_nil))) (fun _ _ => rfl)))), ?_⟩
    walk_at "rd"
    refine ⟨b, c, cs, _, rfl, by omega, by omega, B, fun H1 r f1 B1 r0 r1 => ?_⟩
    obtain ⟨u, hu, _⟩ := at_str r0 r1
    walk_at "rd"
    exact q _ _ f1 B1
end
def four (z : Str) : List V := [.bl (isName z), .bl (isLabel z false), .bl (isLabel z true), .bl (isLabel z false)]
def spFour : Sp := fun vs H Q _ => ∃ z : Str, vs = [.str z] ∧ z.length ≤ 10000 ∧ ∀ H' p, Same H H' → H p = none → H' p = some (.lst (four z)) → Q (.ref p) H'
def spString : Sp := fun vs H Q _ => ∃ (b c : Addr) (cs : List Int), vs = [.ref b] ∧ BagAt b c cs H ∧ ∀ H' (z : Str), Off b H H' → BagAt b c cs H' → z.length ≤ 1000 → Q (.str z) H'
section
variable {P : Program} {w : World} {K : PySem.W.Frag} {mg : Str → Option Value} {base : Heap}
theorem ok_law_told (T : Txt K mg) : FnOk P w K mg base CX0 2 T.f_law_told T.fd_law_told ["word"] spFour := by
  refine T.F_law_told.ok sc_law_told (fun vs H Q E h => ?_) (fun cdv A outer s H vs Q E hr h => ?_)
  · obtain ⟨z, rfl, _⟩ := h
    rfl
  · obtain ⟨z, rfl, hz, q⟩ := h
    refine ⟨_, (pss_one (ps_ret (pe_lst (pa_cons (pe_call (ok_is_name T) (hr.mono (by decide)) (by rfl) T.g_is_name T.F_is_name.kp T.b_is_name .nil pass0 (pa_cons (pv 0) pa_nil)) (pa_cons (pe_call (ok_is_label T) (hr.mono (by decide)) (by rfl) T.g_is_label T.F_is_label.kp T.b_is_label T.dv_is_label pass0 (pa_cons (pv 0) pa_nil)) (pa_cons (pe_callN (ok_is_label T) (hr.mono (by decide)) (by rfl) T.g_is_label T.F_is_label.kp T.kb_is_label pass0 (pa_cons (pv 0) pa_nil) (pk_cons pe_bl pk_nil)) (pa_cons (pe_callN (ok_is_label T) (hr.mono (by decide)) (by rfl) T.g_is_label T.F_is_label.kp T.kb_is_label pass0 (pa_cons (pv 0) pa_nil) (pk_cons pe_bl pk_nil)) pa_nil))))))), ?_⟩
    walk_at "rd"
    refine ⟨z, rfl, hz, fun H1 s1 => ?_⟩
    walk_at "rd"
    refine ⟨z, false, rfl, hz, fun H2 s2 => ?_⟩
    walk_at "rd"
    refine ⟨z, true, rfl, hz, fun H3 s3 => ?_⟩
    walk_at "rd"
    refine ⟨z, false, rfl, hz, fun H4 s4 => ?_⟩
    walk_at "rd"
    rename_i p hp
    have s5 : Same H H4 := s1.trans (s2.trans (s3.trans s4))
    exact q _ p (s5.trans (same_upd hp)) (s5.free hp) upd_same
theorem ok_law_due (T : Txt K mg) : FnOk P w K mg base CX0 2 T.f_law_due T.fd_law_due ["word"] spFour := by
  refine T.F_law_due.ok sc_law_due (fun vs H Q E h => ?_) (fun cdv A outer s H vs Q E hr h => ?_)
  · obtain ⟨z, rfl, _⟩ := h
    rfl
  · obtain ⟨z, rfl, hz, q⟩ := h
    have hs : z.length ≤ sizeLine := sz4 (by omega)
    refine ⟨_, (pss_cons (ps_set (i := 1) sc_law_due.nd rfl (by first | exact Or.inl rfl | exact Or.inr rfl) (pe_callB (dMax1 K rfl) (by rfl) T.n_max (by decide +kernel) (pa_cons (pe_op (dAdd K) (pe_lst (pa_cons pe_int pa_nil)) (pe_lc (own := [("sign", 2)]) (g := gName 2) (tt := tYes) rfl sc_law_due.nd  (pi_str (pv 0)) (blkOk_by (own := [("sign", 2)]) (N := ["word", "worst", "sign", "short"]) (sc := defScope s_law_due) (by decide +kernel)) (fun _ _ _ _ _ => (pg_name (i := 2) sc_law_due.nd rfl (by first | exact Or.inl rfl | exact Or.inr rfl))) (fun _ _ _ _ _ => pts_nil) (fun _ _ _ _ _ => (pe_call (ok_law_rank T) (hr.mono (by decide)) (by rfl) T.g_law_rank T.F_law_rank.kp T.b_law_rank .nil pass0 (pa_cons (pv 2) pa_nil))))) pa_nil)))
   (pss_cons (ps_set (i := 3) sc_law_due.nd rfl (by first | exact Or.inl rfl | exact Or.inr rfl) (pe_cmpR dLe (pe_callB (dLen K) (by rfl) T.n_len (by decide +kernel) (pa_cons (pv 0) pa_nil)) pe_int (nomark _)))
   (pss_one (ps_ret (pe_lst (pa_cons (pe_and (pv 3) (pe_and (pe_cmpR dGt (pe_callB (dLen K) (by rfl) T.n_len (by decide +kernel) (pa_cons (pv 0) pa_nil)) pe_int (nomark _)) (pe_one (pe_cmpR dEq (pv 1) pe_int (nomark _))))) (pa_cons (pe_and (pv 3) (pe_one (pe_cmpR dLt (pv 1) pe_int (nomark _)))) (pa_cons (pe_and (pv 3) (pe_one (pe_cmpR dLt (pv 1) pe_int (nomark _)))) (pa_cons (pe_and (pv 3) (pe_one (pe_cmpR dLt (pv 1) pe_int (nomark _)))) pa_nil))))))))), ?_⟩
    walk_at "rd"
    rename_i p0 hp0
    refine lc_smap (z := z) (fun c => .int (rank c)) (fun Qe h => ?_) (sz4' (by omega)) (fun _ => rfl) ?_ ?_
    · walk_at "rd"; exact h
    · intro i c H' hc s1 Qe hq
      walk_at "rd"
      exact ⟨c, rfl, fun H2 s2 => hq H2 s2⟩
    · intro D H1 hD s1 e1
      have e2 : z.cps.toList.map (fun c => V.int (rank c)) = (z.cps.toList.map rank).map V.int := by rw [List.map_map]; rfl
      rw [e2] at e1
      have e0 : H1 p0 = some (.lst [.int 0]) := s1 _ _ upd_same
      have hl : z.cps.toList.length ≤ 10000 := by simpa [Str.length] using hz
      walk_at "rd"
      rename_i p1 hp1
      refine ⟨_, (0 : Int) :: z.cps.toList.map rank, rfl, SqL.of upd_same, by simp, fun m hm hle => ?_⟩
      walk_at "rd"
      rename_i p2 hp2
      have m0 : 0 ≤ m := hle 0 (List.mem_cons_self ..)
      have w1 : decide (m = 0) = z.cps.toList.all fun c => decide (97 ≤ c ∧ c ≤ 122) := by
        rw [show decide (m = 0) = decide (m < 1) from decide_eq_decide.mpr (by omega), worst_lt hm hle (by decide)]
        simp only [r1]
      have w2 : decide (m < 2) = z.cps.toList.all fun c => plainC c := by
        rw [worst_lt hm hle (by decide)]
        simp only [r2]
      have w3 : decide (m < 3) = z.cps.toList.all fun c => plainC c || decide (c = 36) := by
        rw [worst_lt hm hle (by decide)]
        simp only [r3]
      have n1 : isName z = (decide ((z.length : Int) ≤ 6) && (decide (0 < (z.length : Int)) && decide (m = 0))) := by
        rw [w1]
        unfold isName
        rw [show decide (0 < (z.length : Int)) = decide (1 ≤ (z.length : Int)) from decide_eq_decide.mpr (by omega)]
        cases decide (1 ≤ (z.length : Int)) <;> cases decide ((z.length : Int) ≤ 6) <;> rfl
      have n2 : isLabel z false = (decide ((z.length : Int) ≤ 6) && decide (m < 3)) := by
        rw [w3]
        unfold isLabel
        simp only [Bool.not_false, Bool.and_true]
      have n3 : isLabel z true = (decide ((z.length : Int) ≤ 6) && decide (m < 2)) := by
        rw [w2]
        unfold isLabel
        simp only [Bool.not_true, Bool.and_false, Bool.or_false]
      have s3 : Same H H1 := (same_upd hp0).trans s1
      refine q _ p2 ((s3.trans (same_upd hp1)).trans (same_upd hp2)) ((s3.trans (same_upd hp1)).free hp2) (upd_same.trans ?_)
      unfold four
      rw [n1, n2, n3]
theorem ok_law_string (T : Txt K mg) : FnOk P w K mg base CX0 3 T.f_law_string T.fd_law_string ["bag"] spString := by
  refine T.F_law_string.ok sc_law_string (fun vs H Q E h => ?_) (fun cdv A outer s H vs Q E hr h => ?_)
  · obtain ⟨b, c, cs, rfl, _⟩ := h
    rfl
  · obtain ⟨b, c, cs, rfl, B, q⟩ := h
    refine ⟨_, (pss_cons (ps_set (i := 1) sc_law_string.nd rfl (by first | exact Or.inl rfl | exact Or.inr rfl) (pe_call0 (ok_law_all_signs T) (hr.mono (by decide)) (by rfl) T.g_law_all_signs T.F_law_all_signs.kp T.b_law_all_signs .nil pass0))
   (pss_cons (ps_set (i := 2) sc_law_string.nd rfl (by first | exact Or.inl rfl | exact Or.inr rfl) pe_str)
   (pss_cons (ps_set (i := 3) sc_law_string.nd rfl (by first | exact Or.inl rfl | exact Or.inr rfl) (pe_op (dAdd K) (pv 2) pe_str))
   (pss_cons (ps_set (i := 4) sc_law_string.nd rfl (by first | exact Or.inl rfl | exact Or.inr rfl) (pe_ix (dIx K) (pe_lst (pa_cons (pv 2) (pa_cons (pv 3) (pa_cons (pe_op (dAdd K) (pv 3) pe_str) (pa_cons (pv 1) pa_nil))))) (pe_call (ok_law_draw T) (hr.mono (by decide)) (by rfl) T.g_law_draw T.F_law_draw.kp T.b_law_draw .nil pass0 (pa_cons (pv 0) (pa_cons pe_int pa_nil))) (fun _ _ => rfl)))
   (pss_cons (ps_set (i := 5) sc_law_string.nd rfl (by first | exact Or.inl rfl | exact Or.inr rfl) (pe_call (ok_law_draw T) (hr.mono (by decide)) (by rfl) T.g_law_draw T.F_law_draw.kp T.b_law_draw .nil pass0 (pa_cons (pv 0) (pa_cons pe_int pa_nil))))
   (C8.pss_cut (ps_if (pt_cmpR dEq (pv 5) pe_int (nomark _))
    (pss_one (ps_set (i := 5) sc_law_string.nd rfl (by first | exact Or.inl rfl | exact Or.inr rfl) (pe_call (ok_law_draw T) (hr.mono (by decide)) (by rfl) T.g_law_draw T.F_law_draw.kp T.b_law_draw .nil pass0 (pa_cons (pv 0) (pa_cons pe_int pa_nil)))))
    pss_nil)
   (pss_cons (ps_set (i := 6) sc_law_string.nd rfl (by first | exact Or.inl rfl | exact Or.inr rfl) (pe_join pe_str (pe_lc (own := [("k", 7)]) (g := gName 7) (tt := tYes) rfl sc_law_string.nd  (pi_range1 rfl T.n_range (pa_cons (pv 5) pa_nil)) (blkOk_by (own := [("k", 7)]) (N := ["bag", "every", "letters", "common", "signs", "many", "word", "k", "at"]) (sc := defScope s_law_string) (by decide +kernel)) (fun _ _ _ _ _ => (pg_name (i := 7) sc_law_string.nd rfl (by first | exact Or.inl rfl | exact Or.inr rfl))) (fun _ _ _ _ _ => pts_nil) (fun _ _ _ _ _ => (pe_call (ok_law_pick T) (hr.mono (by decide)) (by rfl) T.g_law_pick T.F_law_pick.kp T.b_law_pick .nil pass0 (pa_cons (pv 0) (pa_cons (pv 4) pa_nil)))))))
   (pss_cons (ps_if (PW.pt (pw_and (pt_cmpR dGt (pv 5) pe_int (nomark _)) (pw_and1 (pt_cmpR dEq (pe_call (ok_law_draw T) (hr.mono (by decide)) (by rfl) T.g_law_draw T.F_law_draw.kp T.b_law_draw .nil pass0 (pa_cons (pv 0) (pa_cons pe_int pa_nil))) pe_int (nomark _)))))
    (pss_cons (ps_set (i := 8) sc_law_string.nd rfl (by first | exact Or.inl rfl | exact Or.inr rfl) (pe_call (ok_law_draw T) (hr.mono (by decide)) (by rfl) T.g_law_draw T.F_law_draw.kp T.b_law_draw .nil pass0 (pa_cons (pv 0) (pa_cons (pv 5) pa_nil))))
    (pss_one (ps_set (i := 6) sc_law_string.nd rfl (by first | exact Or.inl rfl | exact Or.inr rfl) (pe_op (dAdd K) (pe_op (dAdd K) (pe_slice (dSl K) (pv 6) po_none (po_some (pv 8))) (pe_call (ok_law_pick T) (hr.mono (by decide)) (by rfl) T.g_law_pick T.F_law_pick.kp T.b_law_pick .nil pass0 (pa_cons (pv 0) (pa_cons (pv 1) pa_nil)))) (pe_slice (dSl K) (pv 6) (po_some (pe_op (dAdd K) (pv 8) pe_int)) po_none)))))
    pss_nil)
   (pss_one (ps_ret (pv 6))))))))))), ?_⟩
    walk_at "rd"
    refine ⟨rfl, fun ez ez0 ez1 => ?_⟩
    walk_at "rd"
    rename_i p hp
    refine ⟨b, c, cs, 4, rfl, by decide, by decide, by walk_at "bag", fun H1 r f1 B1 r0 r1 => ?_⟩
    have hx : ∀ v ∈ [V.str "abcdefghijklmnopqrstuvwxyz", V.str ((("abcdefghijklmnopqrstuvwxyz" : Str)) ++ (("ABCDEFGHIJKLMNOPQRSTUVWXYZ0123456789._!?" : Str))), V.str ((("abcdefghijklmnopqrstuvwxyz" : Str)) ++ (("ABCDEFGHIJKLMNOPQRSTUVWXYZ0123456789._!?" : Str)) ++ (("$" : Str))), V.str ez], ∃ z : Str, v = .str z ∧ 0 < z.length ∧ z.length ≤ 1000 := by
      intro v hv
      simp only [List.mem_cons, List.not_mem_nil, or_false] at hv
      rcases hv with rfl | rfl | rfl | rfl
      · exact ⟨_, rfl, by decide +kernel, by decide +kernel⟩
      · exact ⟨_, rfl, by decide +kernel, by decide +kernel⟩
      · exact ⟨_, rfl, by decide +kernel, by decide +kernel⟩
      · exact ⟨_, rfl, ez0, by omega⟩
    obtain ⟨v, hv, z, rfl, z0, z1⟩ := at_all hx r0 r1
    have hsz : z.length ≤ sizeLine := sz4 (by omega)
    have hez : ez.length ≤ sizeLine := sz4 (by omega)
    walk_at "rd"
    refine ⟨b, c, cs, 9, rfl, by decide, by decide, by walk_at "bag", fun H2 m f2 B2 m0 m1 => ?_⟩
    walk_at "rd"
    have f12 : Off b H H2 := by walk_at "off"
    refine ⟨fun σ H' => ∃ (a1 a2 : Str) (m : Int), σ = [some (.ref b), some (.str ez), some (.str a1), some (.str a2), some (.str z), some (.int m), none, none, none] ∧ Off b H H' ∧ BagAt b c cs H' ∧ 0 ≤ m ∧ m ≤ 61, ?_, ?_⟩
    · walk_at "rd"
      · refine ⟨b, c, cs, 61, rfl, by decide, by decide, by walk_at "bag", fun H3 m f3 B3 m0 m1 => ?_⟩
        walk_at "rd"
        exact ⟨_, _, _, rfl, by walk_at "off", B3, m0, by omega⟩
      · exact ⟨_, _, _, rfl, f12, B2, m0, by omega⟩
    · rintro σ H3 ⟨a1, a2, m, rfl, f3, B3, m0, m1⟩
      obtain ⟨n, rfl⟩ := Int.eq_ofNat_of_zero_le m0
      walk_at "rd"
      refine lc_draw (b := b) (c := c) (cs := cs) (n := n) (fun y => ∃ u : Nat, y = .str ⟨#[u]⟩) (by omega) (fun Qe h => ?_) B3 (fun _ => rfl) ?_ ?_
      · walk_at "rd"; exact h
      · intro i H4 hi f4 B4 Qe hq
        walk_at "rd"
        exact ⟨b, c, cs, z, rfl, z0, z1, B4, fun H5 u f5 B5 => hq _ _ f5 B5 ⟨u, rfl⟩⟩
      · intro D ys H4 hD f4 B4 e4 el hp
        obtain ⟨us, rfl⟩ : ∃ us : List Nat, ys = (us.map fun u => (⟨#[u]⟩ : Str)).map V.str := by
          clear e4 el
          induction ys with
          | nil => exact ⟨[], rfl⟩
          | cons y r ih =>
            obtain ⟨us, rfl⟩ := ih fun y hy => hp y (List.mem_cons_of_mem _ hy)
            obtain ⟨u, rfl⟩ := hp y (List.mem_cons_self ..)
            exact ⟨u :: us, rfl⟩
        walk_at "rd"
        have hus : us.length = n := by simpa using el
        have hlen : (PySem.Txt.join (Str.ofString "") (us.map fun u => (⟨#[u]⟩ : Str))).length = n := by
          rw [show PySem.Txt.join (Str.ofString "") (us.map fun u => (⟨#[u]⟩ : Str)) = Builtin.Str.glued (Str.ofString "") (us.map fun u => (⟨#[u]⟩ : Str)) from rfl, PySem.size_glued]
          rw [List.map_map, show (List.map (Str.length ∘ fun u => (⟨#[u]⟩ : Str)) us) = us.map (fun _ => 1) from rfl, show (Str.ofString "").length = 0 from rfl, ones]
          omega
        refine ⟨_, D, us.map fun u => (⟨#[u]⟩ : Str), rfl, rfl, .inl (SqL.of e4), ?_, ?_⟩
        · rw [List.map_map, show (List.map ((fun x => Str.length x) ∘ fun u => (⟨#[u]⟩ : Str)) us) = us.map (fun _ => 1) from rfl, show (Str.ofString "").length = 0 from rfl, ones]
          omega
        · generalize PySem.Txt.join (Str.ofString "") (us.map fun u => (⟨#[u]⟩ : Str)) = wd at hlen ⊢
          have hwd : wd.length ≤ sizeLine := sz4 (by omega)
          walk_at "rd"
          · refine ⟨b, c, cs, 3, rfl, by decide, by decide, B4, fun H5 r3 f5 B5 _ _ => ?_⟩
            walk_at "rd"
            · refine ⟨b, c, cs, (n : Int), rfl, by omega, Int.lt_of_le_of_lt m1 (by decide), B5, fun H6 at_ f6 B6 a0 a1 => ?_⟩
              walk_at "rd"
              refine ⟨b, c, cs, ez, rfl, ez0, by omega, B6, fun H7 u f7 B7 => ?_⟩
              have h1 : (⟨#[u]⟩ : Str).length = 1 := rfl
              have hy := cutS_length wd none (some at_)
              have hy2 := cutS_length wd (some (at_ + 1)) none
              have h2 := strlen_app (cutS wd none (some at_)) (⟨#[u]⟩ : Str)
              have h3 := strlen_app (cutS wd none (some at_) ++ (⟨#[u]⟩ : Str)) (cutS wd (some (at_ + 1)) none)
              walk_at "rd"
              exact q _ _ ((((f3.trans f4).trans f5).trans f6).trans f7) B7 (by omega)
            · exact q _ _ ((f3.trans f4).trans f5) B5 (by omega)
          · exact q _ _ (f3.trans f4) B4 (by omega)
end
def spLaw (K : PySem.W.Frag) : Sp := fun vs H Q _ => ∃ (a : Addr) (ns : List Int), vs = [.ref a] ∧ SqL K H a (ns.map V.int) ∧ ns.length ≤ 63 ∧ ∀ H', Q (.bl true) H'
def isStrs (l : List V) : Prop := ∀ v ∈ l, ∃ z : Str, v = .str z ∧ z.length ≤ 10000
section
variable {P : Program} {w : World} {K : PySem.W.Frag} {mg : Str → Option Value} {base : Heap}
theorem ok_law (T : Txt K mg) {f : Addr} {fd : FuncData} (F : Fun K "law" "law" s_law f fd) : FnOk P w K mg base CX0 4 f fd ["script"] (spLaw K) := by
  refine F.ok sc_law (fun vs H Q E h => ?_) (fun cdv A outer s H vs Q E hr h => ?_)
  · obtain ⟨a, ns, rfl, _⟩ := h
    rfl
  · obtain ⟨a, ns, rfl, hS, hlen, q⟩ := h
    refine ⟨_, (pss_cons (ps_set (i := 1) sc_law.nd rfl (by first | exact Or.inl rfl | exact Or.inr rfl) (pe_call (ok_law_bag T) (hr.mono (by decide)) (by rfl) T.g_law_bag T.F_law_bag.kp T.b_law_bag .nil pass0 (pa_cons (pv 0) pa_nil)))
   (pss_cons (ps_set (i := 2) sc_law.nd rfl (by first | exact Or.inl rfl | exact Or.inr rfl) (pe_lst pa_nil))
   (pss_cons (ps_for PassesOwn.never rfl (pi_range1 rfl T.n_range (pa_cons (pe_op (dAdd K) pe_int (pe_call (ok_law_draw T) (hr.mono (by decide)) (by rfl) T.g_law_draw T.F_law_draw.kp T.b_law_draw .nil pass0 (pa_cons (pv 1) (pa_cons pe_int pa_nil)))) pa_nil)) (pg_name (i := 3) sc_law.nd rfl (by first | exact Or.inl rfl | exact Or.inr rfl))
    (pss_cons (ps_set (i := 4) sc_law.nd rfl (by first | exact Or.inl rfl | exact Or.inr rfl) (pe_call (ok_law_string T) (hr.mono (by decide)) (by rfl) T.g_law_string T.F_law_string.kp T.b_law_string .nil pass0 (pa_cons (pv 1) pa_nil)))
    (pss_one (ps_expr (pe_bm PySem.F.plainAttrs_list PySem.F.slot_list_extend PySem.F.type_list_extend mt_extend (pv 2) (pa_cons (pe_lst (pa_cons (pv 4) (pa_cons (pe_slice (dSl K) (pv 4) po_none (po_some pe_int)) (pa_cons (pe_op (dAdd K) (pv 4) pe_str) (pa_cons (pe_op (dAdd K) pe_str (pv 4)) (pa_cons (pe_op (dAdd K) (pv 4) pe_str) (pa_cons (pe_upper (pv 4)) (pa_cons (pe_op (dAdd K) pe_str (pv 4)) pa_nil)))))))) pa_nil))))))
   (pss_cons (ps_for PassesOwn.never rfl (dpi_list K (pe_op (dAdd K) (pv 2) (dRevL K (pv 2)))) (pg_name (i := 5) sc_law.nd rfl (by first | exact Or.inl rfl | exact Or.inr rfl))
    (pss_cons (ps_set (i := 6) sc_law.nd rfl (by first | exact Or.inl rfl | exact Or.inr rfl) (pe_call (ok_law_told T) (hr.mono (by decide)) (by rfl) T.g_law_told T.F_law_told.kp T.b_law_told .nil pass0 (pa_cons (pv 5) pa_nil)))
    (pss_cons (ps_set (i := 7) sc_law.nd rfl (by first | exact Or.inl rfl | exact Or.inr rfl) (pe_call (ok_law_due T) (hr.mono (by decide)) (by rfl) T.g_law_due T.F_law_due.kp T.b_law_due .nil pass0 (pa_cons (pv 5) pa_nil)))
    (pss_one (ps_for PassesOwn.never rfl (pi_range1 rfl T.n_range (pa_cons pe_int pa_nil)) (pg_name (i := 3) sc_law.nd rfl (by first | exact Or.inl rfl | exact Or.inr rfl))
     (pss_one (ps_if (PW.pt (pw_or (pt_not (pt_val (pe_callB (dIsi K) (by rfl) T.n_isinstance (by decide +kernel) (pa_cons (pe_ix (dIx K) (pv 6) (pv 3) (fun _ _ => rfl)) (pa_cons (pe_bltn (v := .ty "bool") (u := .type "bool") (by rfl) T.n_bool (by decide +kernel) rfl) pa_nil))))) (pw_or1 (pt_cmpR dNe (pe_ix (dIx K) (pv 6) (pv 3) (fun _ _ => rfl)) (pe_ix (dIx K) (pv 7) (pv 3) (fun _ _ => rfl)) (nomark _)))))
      (pss_one (ps_ret pe_bl))
      pss_nil)))))))
   (pss_one (ps_ret pe_bl)))))), ?_⟩
    walk_at "rd"
    refine ⟨a, ns, rfl, hS, hlen, fun H1 b c cs s1 hb B => ?_⟩
    walk_at "rd"
    rename_i p hp
    have pb := B.ne hp
    have pc := B.ne2 hp
    refine ⟨b, c, cs, 3, rfl, by decide, by decide, by walk_at "bag", fun H2 r f2 B2 r0 r1 => ?_⟩
    walk_at "rd"
    obtain ⟨n, rfl⟩ := Int.eq_ofNat_of_zero_le r0
    refine ⟨_, rfl, by omega, by omega, ?_⟩
    rw [show ((1 : Int) + (n : Int)).toNat = n + 1 by omega]
    refine for_range (lo := 0) (n := n + 1) (fun i σ H' => ∃ (x3 x4 : Option V) (l : List V), σ = [some (.ref a), some (.ref b), some (.ref p), x3, x4, none, none, none] ∧ BagAt b c cs H' ∧ H' p = some (.lst l) ∧ l.length = 7 * i ∧ isStrs l) ⟨none, none, [], rfl, B2, f2.get pb upd_same, rfl, fun v h => nomatch h⟩ ?_ ?_
    · rintro i σ H3 hi ⟨x3, x4, l, rfl, B3, e3, hl, hst⟩
      walk_at "rd"
      refine ⟨b, c, cs, rfl, B3, fun H4 z f4 B4 hz => ?_⟩
      have e4 := f4.get pb e3
      have zs : z.length ≤ sizeLine := sz4 (by omega)
      have l1 : (Str.ofString " ").length = 1 := rfl
      have l2 : (Str.ofString "\n").length = 1 := rfl
      have l3 : (Str.ofString "q").length = 1 := rfl
      have l4 : (Str.ofString "$").length = 1 := rfl
      walk_at "rd"
      rename_i t ht
      refine ⟨_, _, _, rfl, by walk_at "bag", upd_same, by simp [hl]; omega, ?_⟩
      intro v hv
      rcases List.mem_append.mp hv with hv | hv
      · exact hst v hv
      · have c1 := cutS_length z none (some 6)
        have c2 := strlen_app z (Str.ofString "\n")
        have c3 := strlen_app (Str.ofString " ") z
        have c4 := strlen_app z (Str.ofString "q")
        have c5 := len_upper z
        have c6 := strlen_app (Str.ofString "$") z
        simp only [List.mem_cons, List.not_mem_nil, or_false] at hv
        rcases hv with rfl | rfl | rfl | rfl | rfl | rfl | rfl <;> exact ⟨_, rfl, by omega⟩
    · rintro σ H3 ⟨x3, x4, l, rfl, B3, e3, hl, hst⟩
      have l21 : l.length ≤ 21 := by omega
      have l21r : l.reverse.length ≤ 21 := by simpa using l21
      walk_at "rd"
      rename_i p1 hp1 p2 hp2
      have hst2 : isStrs (l ++ l.reverse) := by
        intro v hv
        rcases List.mem_append.mp hv with hv | hv
        · exact hst v hv
        · exact hst v (List.mem_reverse.mp hv)
      refine for_list (K := K) (a := p2) (xs := l ++ l.reverse) (fun i σ H' => ∃ (x3 x5 x6 x7 : Option V), σ = [some (.ref a), some (.ref b), some (.ref p), x3, x4, x5, x6, x7] ∧ H' p2 = some (.lst (l ++ l.reverse))) ⟨_, _, _, _, rfl, upd_same⟩ (fun i σ H' _ h => by obtain ⟨_, _, _, _, _, e⟩ := h; exact SqL.of e) ?_ ?_
      · rintro i v σ H4 hi ⟨x3, x5, x6, x7, rfl, e4⟩
        obtain ⟨z, rfl, hz⟩ := hst2 v (List.mem_of_getElem? hi)
        walk_at "rd"
        refine ⟨z, rfl, hz, fun H5 t s5 ht et => ?_⟩
        walk_at "rd"
        refine ⟨z, rfl, hz, fun H6 u s6 hu eu => ?_⟩
        walk_at "rd"
        refine ⟨4, rfl, by omega, by omega, ?_⟩
        refine for_range (lo := 0) (n := 4) (fun j σ H' => ∃ x3, σ = [some (.ref a), some (.ref b), some (.ref p), x3, x4, some (.str z), some (.ref t), some (.ref u)] ∧ H' = H6) ⟨_, rfl, rfl⟩ ?_ ?_
        · rintro j σ H7 hj ⟨x3, rfl, rfl⟩
          obtain ⟨v, hv, bb, rfl⟩ := at_all (xs := four z) (P := fun v => ∃ bb, v = V.bl bb) (by intro v hv; simp only [four, List.mem_cons, List.not_mem_nil, or_false] at hv; rcases hv with rfl | rfl | rfl | rfl <;> exact ⟨_, rfl⟩) (i := 0 + (j : Int)) (by omega) (by show (0 : Int) + j < 4; omega)
          have et' : H7 t = some (.lst (four z)) := s6 _ _ et
          walk_at "rd"
          all_goals first | exact ⟨_, rfl, rfl⟩ | exact absurd ‹(!true) = true› (by decide) | exact absurd rfl ‹¬ bb = bb›
        · rintro σ H7 ⟨x3, rfl, rfl⟩
          exact ⟨_, _, _, _, rfl, s6 _ _ (s5 _ _ e4)⟩
      · rintro σ H4 ⟨x3, x5, x6, x7, rfl, e4⟩
        walk_at "rd"
        exact q _
end
theorem all_mk {l : PySem.W.OpenLaw} {w : World} {K : PySem.W.Frag} {h : Heap} {mg : Str → Option Value} {fa f0 f1 f2 f3 f4 f5 f6 f7 f8 f9 f10 : Addr} (X : K.In h) (G : h.Ns mainGlobals mg) (hfa : mg "law" = some (.ref fa))
    {od0 an0 od1 an1 od2 an2 od3 an3 od4 an4 od5 an5 od6 an6 od7 an7 od8 an8 od9 an9 od10 an10 : Option Addr} {sl0 sl1 sl2 sl3 sl4 sl5 sl6 sl7 sl8 sl9 sl10 : Array (Option Value)} {oc0 kV0 dc0 pm0 cd0 ct0 oc1 dc1 pm1 cd1 ct1 oc2 kV2 dc2 pm2 cd2 ct2 oc3 kV3 dc3 pm3 cd3 ct3 oc4 kV4 dc4 pm4 cd4 ct4 oc5 kV5 dc5 pm5 cd5 ct5 oc6 kV6 dc6 pm6 cd6 ct6 oc7 kV7 dc7 pm7 cd7 ct7 oc8 kV8 dc8 pm8 cd8 ct8 oc9 kV9 dc9 pm9 cd9 ct9 oc10 kV10 dc10 pm10 cd10 ct10 : Value}
    (a0 : PySem.W.nsIn K mainGlobals "is_name" = some (some (.ref f0))) (l0 : K.lookup f0 = some ⟨oc0, od0, .func (PySem.W.fnOf "is_name" "is_name" (defArgs s_is_name) (defBody s_is_name) (defScope s_is_name) .none kV0 dc0 pm0 an0 cd0 ct0), sl0⟩) (c0 : PySem.W.codeIn K cd0 "is_name" = true) (k0 : PySem.W.keepIn K (.ref f0) = true)
    {D1 : Addr}
    (a1 : PySem.W.nsIn K mainGlobals "is_label" = some (some (.ref f1))) (l1 : K.lookup f1 = some ⟨oc1, od1, .func (PySem.W.fnOf "is_label" "is_label" (defArgs s_is_label) (defBody s_is_label) (defScope s_is_label) .none (.ref D1) dc1 pm1 an1 cd1 ct1), sl1⟩) (c1 : PySem.W.codeIn K cd1 "is_label" = true) (k1 : PySem.W.keepIn K (.ref f1) = true)
     (p1_plain : PySem.W.nsIn K D1 "plain" = some (some (.bool false)))
    (a2 : PySem.W.nsIn K mainGlobals "_law_bag" = some (some (.ref f2))) (l2 : K.lookup f2 = some ⟨oc2, od2, .func (PySem.W.fnOf "_law_bag" "_law_bag" (defArgs s_law_bag) (defBody s_law_bag) (defScope s_law_bag) .none kV2 dc2 pm2 an2 cd2 ct2), sl2⟩) (c2 : PySem.W.codeIn K cd2 "_law_bag" = true) (k2 : PySem.W.keepIn K (.ref f2) = true)
    (a3 : PySem.W.nsIn K mainGlobals "_law_draw" = some (some (.ref f3))) (l3 : K.lookup f3 = some ⟨oc3, od3, .func (PySem.W.fnOf "_law_draw" "_law_draw" (defArgs s_law_draw) (defBody s_law_draw) (defScope s_law_draw) .none kV3 dc3 pm3 an3 cd3 ct3), sl3⟩) (c3 : PySem.W.codeIn K cd3 "_law_draw" = true) (k3 : PySem.W.keepIn K (.ref f3) = true)
    (a4 : PySem.W.nsIn K mainGlobals "_law_pick" = some (some (.ref f4))) (l4 : K.lookup f4 = some ⟨oc4, od4, .func (PySem.W.fnOf "_law_pick" "_law_pick" (defArgs s_law_pick) (defBody s_law_pick) (defScope s_law_pick) .none kV4 dc4 pm4 an4 cd4 ct4), sl4⟩) (c4 : PySem.W.codeIn K cd4 "_law_pick" = true) (k4 : PySem.W.keepIn K (.ref f4) = true)
    (a5 : PySem.W.nsIn K mainGlobals "_law_all_signs" = some (some (.ref f5))) (l5 : K.lookup f5 = some ⟨oc5, od5, .func (PySem.W.fnOf "_law_all_signs" "_law_all_signs" (defArgs s_law_all_signs) (defBody s_law_all_signs) (defScope s_law_all_signs) .none kV5 dc5 pm5 an5 cd5 ct5), sl5⟩) (c5 : PySem.W.codeIn K cd5 "_law_all_signs" = true) (k5 : PySem.W.keepIn K (.ref f5) = true)
    (a6 : PySem.W.nsIn K mainGlobals "_law_string" = some (some (.ref f6))) (l6 : K.lookup f6 = some ⟨oc6, od6, .func (PySem.W.fnOf "_law_string" "_law_string" (defArgs s_law_string) (defBody s_law_string) (defScope s_law_string) .none kV6 dc6 pm6 an6 cd6 ct6), sl6⟩) (c6 : PySem.W.codeIn K cd6 "_law_string" = true) (k6 : PySem.W.keepIn K (.ref f6) = true)
    (a7 : PySem.W.nsIn K mainGlobals "_law_rank" = some (some (.ref f7))) (l7 : K.lookup f7 = some ⟨oc7, od7, .func (PySem.W.fnOf "_law_rank" "_law_rank" (defArgs s_law_rank) (defBody s_law_rank) (defScope s_law_rank) .none kV7 dc7 pm7 an7 cd7 ct7), sl7⟩) (c7 : PySem.W.codeIn K cd7 "_law_rank" = true) (k7 : PySem.W.keepIn K (.ref f7) = true)
    (a8 : PySem.W.nsIn K mainGlobals "_law_due" = some (some (.ref f8))) (l8 : K.lookup f8 = some ⟨oc8, od8, .func (PySem.W.fnOf "_law_due" "_law_due" (defArgs s_law_due) (defBody s_law_due) (defScope s_law_due) .none kV8 dc8 pm8 an8 cd8 ct8), sl8⟩) (c8 : PySem.W.codeIn K cd8 "_law_due" = true) (k8 : PySem.W.keepIn K (.ref f8) = true)
    (a9 : PySem.W.nsIn K mainGlobals "_law_told" = some (some (.ref f9))) (l9 : K.lookup f9 = some ⟨oc9, od9, .func (PySem.W.fnOf "_law_told" "_law_told" (defArgs s_law_told) (defBody s_law_told) (defScope s_law_told) .none kV9 dc9 pm9 an9 cd9 ct9), sl9⟩) (c9 : PySem.W.codeIn K cd9 "_law_told" = true) (k9 : PySem.W.keepIn K (.ref f9) = true)
    (a10 : PySem.W.nsIn K mainGlobals "law" = some (some (.ref f10))) (l10 : K.lookup f10 = some ⟨oc10, od10, .func (PySem.W.fnOf "law" "law" (defArgs s_law) (defBody s_law) (defScope s_law) .none kV10 dc10 pm10 an10 cd10 ct10), sl10⟩) (c10 : PySem.W.codeIn K cd10 "law" = true) (k10 : PySem.W.keepIn K (.ref f10) = true)
    {t_LONGEST_WORD : Tok} (a_LONGEST_WORD : PySem.W.nsIn K mainGlobals "LONGEST_WORD" = some (some (.int 6 t_LONGEST_WORD)))
    {t_SMALL_LETTERS : Tok} (a_SMALL_LETTERS : PySem.W.nsIn K mainGlobals "SMALL_LETTERS" = some (some (.str "abcdefghijklmnopqrstuvwxyz" t_SMALL_LETTERS)))
    {t_PLAIN_SIGNS : Tok} (a_PLAIN_SIGNS : PySem.W.nsIn K mainGlobals "PLAIN_SIGNS" = some (some (.str "abcdefghijklmnopqrstuvwxyzABCDEFGHIJKLMNOPQRSTUVWXYZ0123456789._!?" t_PLAIN_SIGNS)))
    (z_abs : PySem.W.nsIn K mainGlobals "abs" = some none)
    (z_all : PySem.W.nsIn K mainGlobals "all" = some none)
    (z_bool : PySem.W.nsIn K mainGlobals "bool" = some none)
    (z_int : PySem.W.nsIn K mainGlobals "int" = some none)
    (z_isinstance : PySem.W.nsIn K mainGlobals "isinstance" = some none)
    (z_len : PySem.W.nsIn K mainGlobals "len" = some none)
    (z_max : PySem.W.nsIn K mainGlobals "max" = some none)
    (z_ord : PySem.W.nsIn K mainGlobals "ord" = some none)
    (z_range : PySem.W.nsIn K mainGlobals "range" = some none)
    : ∃ fd : FuncData, (∀ (s : Shared) (v : Value), BindsTo s fd ⟨[v], []⟩ [("script", v)]) ∧ ∀ base : Heap, K.In base → base.Ns mainGlobals mg → FnOk l.prog w K mg base CX0 4 fa fd ["script"] (spLaw K) := by
  have e := hfa.symm.trans (PySem.W.mg_of X G a10)
  cases e
  have F0 := fun_mk (st := s_is_name) l0 c0 k0
  have b0 := F0.binds (ps := ["word"]) fun _ _ _ _ _ _ us hl => match us, hl with | [_], _ => rfl
  have F1 : FunD K "is_label" "is_label" (defArgs s_is_label) (defBody s_is_label) (defScope s_is_label) [] [(("plain" : Str), V.bl false)] f1 _ := ⟨⟨_, _, _, _, _, _, _, _, _, _, rfl, l1, c1, .inl ⟨rfl, rfl⟩, .inr ⟨D1, rfl, fun q hq => by rw [List.mem_singleton.mp hq]; exact ⟨_, p1_plain, rfl⟩⟩⟩, k1⟩
  obtain ⟨ds1, dv1, b1⟩ := F1.binds0 (ps := ["word", "plain"]) 1 (by simp) rfl (fun D doc pm an cdv ct us ks hu hk => match us, ks, hu, hk with | [_], [_], _, _ => ⟨_, _, _, _, _, _, rfl, rfl, rfl⟩)
  have kb1 : KBn K (PySem.W.fnOf "is_label" "is_label" (defArgs s_is_label) (defBody s_is_label) (defScope s_is_label) .none (.ref D1) dc1 pm1 an1 cd1 ct1) ["word", "plain"] 1 ["plain"] (fun us ws => us ++ ws) (fun vs zs => vs ++ zs) := ⟨fun s us ws _ l1 l2 => match us, ws, l1, l2 with | [_], [_], _, _ => .of_eq rfl, fun r1 r2 => r1.append r2⟩
  have F2 := fun_mk (st := s_law_bag) l2 c2 k2
  have b2 := F2.binds (ps := ["script"]) fun _ _ _ _ _ _ us hl => match us, hl with | [_], _ => rfl
  have F3 := fun_mk (st := s_law_draw) l3 c3 k3
  have b3 := F3.binds (ps := ["bag", "many"]) fun _ _ _ _ _ _ us hl => match us, hl with | [_, _], _ => rfl
  have F4 := fun_mk (st := s_law_pick) l4 c4 k4
  have b4 := F4.binds (ps := ["bag", "things"]) fun _ _ _ _ _ _ us hl => match us, hl with | [_, _], _ => rfl
  have F5 := fun_mk (st := s_law_all_signs) l5 c5 k5
  have b5 := F5.binds (ps := []) fun _ _ _ _ _ _ us hl => match us, hl with | [], _ => rfl
  have F6 := fun_mk (st := s_law_string) l6 c6 k6
  have b6 := F6.binds (ps := ["bag"]) fun _ _ _ _ _ _ us hl => match us, hl with | [_], _ => rfl
  have F7 := fun_mk (st := s_law_rank) l7 c7 k7
  have b7 := F7.binds (ps := ["sign"]) fun _ _ _ _ _ _ us hl => match us, hl with | [_], _ => rfl
  have F8 := fun_mk (st := s_law_due) l8 c8 k8
  have b8 := F8.binds (ps := ["word"]) fun _ _ _ _ _ _ us hl => match us, hl with | [_], _ => rfl
  have F9 := fun_mk (st := s_law_told) l9 c9 k9
  have b9 := F9.binds (ps := ["word"]) fun _ _ _ _ _ _ us hl => match us, hl with | [_], _ => rfl
  have T : Txt K mg := { f_is_name := _, fd_is_name := _, F_is_name := F0, g_is_name := PySem.W.mg_of X G a0, b_is_name := b0, f_is_label := f1, fd_is_label := PySem.W.fnOf "is_label" "is_label" (defArgs s_is_label) (defBody s_is_label) (defScope s_is_label) .none (.ref D1) dc1 pm1 an1 cd1 ct1, F_is_label := F1, g_is_label := PySem.W.mg_of X G a1, ds_is_label := ds1, dv_is_label := dv1, b_is_label := b1, kb_is_label := kb1, f_law_bag := _, fd_law_bag := _, F_law_bag := F2, g_law_bag := PySem.W.mg_of X G a2, b_law_bag := b2, f_law_draw := _, fd_law_draw := _, F_law_draw := F3, g_law_draw := PySem.W.mg_of X G a3, b_law_draw := b3, f_law_pick := _, fd_law_pick := _, F_law_pick := F4, g_law_pick := PySem.W.mg_of X G a4, b_law_pick := b4, f_law_all_signs := _, fd_law_all_signs := _, F_law_all_signs := F5, g_law_all_signs := PySem.W.mg_of X G a5, b_law_all_signs := b5, f_law_string := _, fd_law_string := _, F_law_string := F6, g_law_string := PySem.W.mg_of X G a6, b_law_string := b6, f_law_rank := _, fd_law_rank := _, F_law_rank := F7, g_law_rank := PySem.W.mg_of X G a7, b_law_rank := b7, f_law_due := _, fd_law_due := _, F_law_due := F8, g_law_due := PySem.W.mg_of X G a8, b_law_due := b8, f_law_told := _, fd_law_told := _, F_law_told := F9, g_law_told := PySem.W.mg_of X G a9, b_law_told := b9, u_LONGEST_WORD := _, c_LONGEST_WORD := PySem.W.mg_of X G a_LONGEST_WORD, r_LONGEST_WORD := ⟨_, rfl⟩, u_SMALL_LETTERS := _, c_SMALL_LETTERS := PySem.W.mg_of X G a_SMALL_LETTERS, r_SMALL_LETTERS := ⟨_, rfl⟩, u_PLAIN_SIGNS := _, c_PLAIN_SIGNS := PySem.W.mg_of X G a_PLAIN_SIGNS, r_PLAIN_SIGNS := ⟨_, rfl⟩, n_abs := PySem.W.mg_none_of X G z_abs, n_all := PySem.W.mg_none_of X G z_all, n_bool := PySem.W.mg_none_of X G z_bool, n_int := PySem.W.mg_none_of X G z_int, n_isinstance := PySem.W.mg_none_of X G z_isinstance, n_len := PySem.W.mg_none_of X G z_len, n_max := PySem.W.mg_none_of X G z_max, n_ord := PySem.W.mg_none_of X G z_ord, n_range := PySem.W.mg_none_of X G z_range }
  exact ⟨PySem.W.fnOf "law" "law" (defArgs s_law) (defBody s_law) (defScope s_law) .none kV10 dc10 pm10 an10 cd10 ct10, fun s v => .of_eq rfl, fun base _ _ => ok_law T (fun_mk (st := s_law) l10 c10 k10)⟩
end K01
open PySem PySem.W PyProof.Rows
set_option maxHeartbeats 0 in
set_option maxRecDepth 100000 in
theorem PySem.Challenge.cw_drawnlayers_k01_names_and_labels_holds : PySem.Challenge.rw_drawnlayers_k01_names_and_labels.Holds := by
  w_on; o_law; k_head; (case hw => w_witness2)
  k_fill
  refine L2.walk_of (l := PySem.Challenge.rw_drawnlayers_k01_names_and_labels) (n := 63) (k := 4) (x := "script") (CX := fun _ => L2.CX0) (sp := fun w => K01.spLaw _) rfl (by decide) rfl ⟨rfl, by decide, by decide⟩ (fun w h Y => PySem.W.kIn_of Y) ?F (fun _ _ a ns hl _ hS => ⟨a, ns, rfl, hS, hl, fun _ => rfl⟩) (fun _ _ _ _ _ z => z)
  case F =>
    intro w mg fa h KX G hmg
    refine' K01.all_mk KX G hmg ?a0 ?l0 ?c0 ?k0 ?a1 ?l1 ?c1 ?k1 ?p1_plain ?a2 ?l2 ?c2 ?k2 ?a3 ?l3 ?c3 ?k3 ?a4 ?l4 ?c4 ?k4 ?a5 ?l5 ?c5 ?k5 ?a6 ?l6 ?c6 ?k6 ?a7 ?l7 ?c7 ?k7 ?a8 ?l8 ?c8 ?k8 ?a9 ?l9 ?c9 ?k9 ?a10 ?l10 ?c10 ?k10 ?a_LONGEST_WORD ?a_SMALL_LETTERS ?a_PLAIN_SIGNS ?z_abs ?z_all ?z_bool ?z_int ?z_isinstance ?z_len ?z_max ?z_ord ?z_range
    (case a0 => k_is)
    (case l0 => k_is)
    (case c0 => k_is)
    (case k0 => k_is)
    (case a1 => k_is)
    (case l1 => k_is)
    (case c1 => k_is)
    (case k1 => k_is)
    (case p1_plain => k_is)
    (case a2 => k_is)
    (case l2 => k_is)
    (case c2 => k_is)
    (case k2 => k_is)
    (case a3 => k_is)
    (case l3 => k_is)
    (case c3 => k_is)
    (case k3 => k_is)
    (case a4 => k_is)
    (case l4 => k_is)
    (case c4 => k_is)
    (case k4 => k_is)
    (case a5 => k_is)
    (case l5 => k_is)
    (case c5 => k_is)
    (case k5 => k_is)
    (case a6 => k_is)
    (case l6 => k_is)
    (case c6 => k_is)
    (case k6 => k_is)
    (case a7 => k_is)
    (case l7 => k_is)
    (case c7 => k_is)
    (case k7 => k_is)
    (case a8 => k_is)
    (case l8 => k_is)
    (case c8 => k_is)
    (case k8 => k_is)
    (case a9 => k_is)
    (case l9 => k_is)
    (case c9 => k_is)
    (case k9 => k_is)
    (case a10 => k_is)
    (case l10 => k_is)
    (case c10 => k_is)
    (case k10 => k_is)
    (case a_LONGEST_WORD => k_is)
    (case a_SMALL_LETTERS => k_is)
    (case a_PLAIN_SIGNS => k_is)
    (case z_abs => k_is)
    (case z_all => k_is)
    (case z_bool => k_is)
    (case z_int => k_is)
    (case z_isinstance => k_is)
    (case z_len => k_is)
    (case z_max => k_is)
    (case z_ord => k_is)
    (case z_range => k_is)
