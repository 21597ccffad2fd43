import PyProof.Rows.All
import Wide.All
import OpenK.AllK
import Wide.FinOn
import HandS.ForMost
import HandS.Wide
import HandS.IsInst
import HandS.Codes
import HandS.SortInts
import HandS.Defaults
import HandS.Style
import PyProof.EnumMake
import HandS.Zip
import HandS.Conv
import HandS.TupAny
import HandS.Walk
import OpenK.KMeth
import OpenK.KDescr
import OpenK.KCls
import KE.KOpsOwn
import HandS.OwnEq
import HandS.ClsMeth
import HandS.Star
import PyProof.DictTable
import PyProof.DictRoadsH
import HandS.TupLen
import PySem.Challenge.RW_drawnlayers_k29_whole_least_orders
set_option Elab.async false
set_option linter.all false
set_option maxRecDepth 100000
set_option maxHeartbeats 4000000
namespace D0
open PySem PySem.Spec PyProof.Rows L2
def rAddD (K : PySem.W.Frag) : R2 := fun x y H Q => rI0 (fun i j => .int (i + j)) x y H Q ∨ (∃ i j, x = .str i ∧ y = .str j ∧ i.length + j.length ≤ sizeLine ∧ Q (.str (i ++ j)) H) ∨ rCat x y H Q ∨ rCatT K x y H Q
def rMulD : R2 := fun x y H Q => rI CMul (fun i j => .int (i * j)) x y H Q ∨ rRep x y H Q
def rLtD : R2 := rI0 fun i j => .bl (decide (i < j))
def rLeD : R2 := rI0 fun i j => .bl (decide (i ≤ j))
def rGtD : R2 := rI0 fun i j => .bl (decide (j < i))
def rGeD : R2 := rI0 fun i j => .bl (decide (j ≤ i))
def rSubD : R2 := rI0 fun i j => .int (i - j)
def rModD : R2 := rI (fun _ j => j ≠ 0) fun i j => .int (i.fmod j)
def rDivD : R2 := rI CDivW fun i j => .int (i / j)
def rPowD : R2 := rI CPow fun i j => .int (i ^ j.toNat)
def rStrIn (neg : Bool) : R2 := fun x y H Q => ∃ (c : Nat) (z : Str), x = .str ⟨#[c]⟩ ∧ y = .str z ∧ Q (.bl (if neg then !decide (c ∈ z.cps.toList) else decide (c ∈ z.cps.toList))) H
def rInD (K : PySem.W.Frag) (neg : Bool) : R2 := fun x y H Q => rIn K neg x y H Q ∨ rStrIn neg x y H Q
def rIxD (K : PySem.W.Frag) : R2 := fun x y H Q => rIxL K x y H Q ∨ rIxT K x y H Q ∨ rIxS x y H Q
def rIntD : List V → Hp → VK → Prop := fun xs H Q => (∃ i, xs = [.int i] ∧ Q (.int i) H) ∨ ∃ k, xs = [.bl k] ∧ Q (.int (if k then 1 else 0)) H
def rLenD (K : PySem.W.Frag) : List V → Hp → VK → Prop := fun xs H Q => ∃ x n, xs = [x] ∧ LenV K x H n ∧ Q (.int n) H
def rAbsD : List V → Hp → VK → Prop := fun xs H Q => ∃ i, xs = [.int i] ∧ Q (.int (if i < 0 then -i else i)) H
def rMax2D : List V → Hp → VK → Prop := fun xs H Q => ∃ i j, xs = [.int i, .int j] ∧ Q (.int (if j > i then j else i)) H
def rMin2D : List V → Hp → VK → Prop := fun xs H Q => ∃ i j, xs = [.int i, .int j] ∧ Q (.int (if j < i then j else i)) H
def rOrdD : List V → Hp → VK → Prop := fun xs H Q => ∃ x, xs = [.str x] ∧ x.length = 1 ∧ Q (.int (x.cps.getD 0 0 : Nat)) H
section
variable {X : Cx} (K : PySem.W.Frag)
theorem dAdd (hK : X.K = K := by rfl) : OpR X (binaryOp .Add) (rAddD K) := by subst hK; exact op_add.or (op_add_str.or (op_cat.or op_catT))
theorem dSub : OpR X (binaryOp .Sub) rSubD := op_sub
theorem dMul : OpR X (binaryOp .Mult) rMulD := op_mul.or op_rep
theorem dMod : OpR X (binaryOp .Mod) rModD := op_modN
theorem dDiv : OpR X (binaryOp .FloorDiv) rDivD := op_fdivW
theorem dPow : OpR X (binaryOp .Pow) rPowD := op_pow
theorem dLt : OpR X (compareOp .Lt) rLtD := op_lt
theorem dLe : OpR X (compareOp .LtE) rLeD := op_le
theorem dGt : OpR X (compareOp .Gt) rGtD := op_gt
theorem dGe : OpR X (compareOp .GtE) rGeD := op_ge
theorem dEq : OpR X (compareOp .Eq) rEq := op_eq
theorem dNe : OpR X (compareOp .NotEq) rNe := op_ne
theorem dIn (hK : X.K = K := by rfl) : OpR X (compareOp .In) (rInD K false) := by subst hK; exact op_in_seq.or op_in_sign
theorem dNin (hK : X.K = K := by rfl) : OpR X (compareOp .NotIn) (rInD K true) := by subst hK; exact op_notIn_seq.or op_notIn_sign
theorem dIx (hK : X.K = K := by rfl) : IxR X (rIxD K) := by subst hK; exact ix_list.or (ix_tup.or ix_str)
theorem dInt : CallR X (.type "int") rIntD := call_int1
theorem dLen (hK : X.K = K := by rfl) : CallR X (.builtin "len") (rLenD K) := by subst hK; exact call_len
theorem dAbs : CallR X (.builtin "abs") rAbsD := call_abs
theorem dMax2 (hc : X.calm = true) : CallR X (.builtin "max") rMax2D := call_max2 hc
theorem dMin2 (hc : X.calm = true) : CallR X (.builtin "min") rMin2D := call_min2 hc
theorem dOrd : CallR X (.builtin "ord") rOrdD := call_ord
theorem dSum (hc : X.calm = true) (hK : X.K = K := by rfl) : CallR X (.builtin "sum") (rSum K) := by subst hK; exact cr_sum hc
theorem dAll (hc : X.calm = true) (hK : X.K = K := by rfl) : CallR X (.builtin "all") (rAll K) := by subst hK; exact cr_all hc
theorem dAny (hc : X.calm = true) (hK : X.K = K := by rfl) : CallR X (.builtin "any") (rAny K) := by subst hK; exact cr_any hc
theorem dMax1 (hc : X.calm = true) (hK : X.K = K := by rfl) : CallR X (.builtin "max") (rMax K) := by subst hK; exact cr_max hc
theorem dMin1 (hc : X.calm = true) (hK : X.K = K := by rfl) : CallR X (.builtin "min") (rMin K) := by subst hK; exact cr_min hc
theorem dIsi (hK : X.K = K := by rfl) : CallR X (.builtin "isinstance") (rIsi K) := by subst hK; exact call_isi
theorem dpi_list {tg l : Expr} {tl : TE} (hl : PE X l tl) (hK : X.K = K := by rfl) : PI X tg l (iList K tl) := by subst hK; exact pi_list hl
theorem dpi_tup {tg l : Expr} {tl : TE} (hl : PE X l tl) (hK : X.K = K := by rfl) : PI X tg l (iTup K tl) := by subst hK; exact pi_tup hl
theorem dpg_tup {es : List Expr} {k : Nat} {t : TGs} {n : Nat} {pos : Pos} (hc : X.calm = true) (h : PGs X es t) (hK : X.K = K := by rfl)
    (hn : (assignEach es X.env).length = n := by rfl) (hst : (assignEach es X.env).findIdx? (·.1) = none := by rfl) : PG X (.Tuple es k pos) (gTup K n t) := by subst hK; exact pg_tup hc h hn hst
def rSlD : V → Option Int → Option Int → Hp → VK → Prop := fun x lo hi H Q => rSlL K x lo hi H Q ∨ rSlS x lo hi H Q
theorem SlRor {r r' : V → Option Int → Option Int → Hp → VK → Prop} (h : SlR X r) (h' : SlR X r') : SlR X (fun x lo hi H Q => r x lo hi H Q ∨ r' x lo hi H Q) := by
  intro pins s σ H x v vl vu lo hi sl Q I rx hs pl pu q
  rcases q with q | q
  · exact h pins s σ H x v vl vu lo hi sl Q I rx hs pl pu q
  · exact h' pins s σ H x v vl vu lo hi sl Q I rx hs pl pu q
theorem dSl (hK : X.K = K := by rfl) : SlR X (rSlD K) := by subst hK; exact SlRor sl_list sl_str
end
section
variable {K : PySem.W.Frag} {σ : L2.St} {H : Hp} {Q : VK} {D : Ends} {ta tb tc te : TE} {t u : TT} {tr : TA} {v x y : V} {g : TG}
theorem rd_var {i : Nat} (h : σ[i]? = some (some v)) (q : Q v H) : tVar i σ H Q := ⟨v, h, q⟩
theorem rd_c (q : Q v H) : tC v σ H Q := q
theorem rd_op {r : R2} (q : ta σ H fun x H1 => tb σ H1 fun y H2 => r x y H2 Q) : tOp r ta tb σ H Q := q
theorem rd_un {r : V → Hp → VK → Prop} (q : ta σ H fun x H1 => r x H1 Q) : tUn r ta σ H Q := q
theorem rd_cb {r : List V → Hp → VK → Prop} (q : tr σ H fun vs H1 => r vs H1 Q) : tCB r tr σ H Q := q
theorem rd_cons {Q : List V → Hp → Prop} (q : ta σ H fun x H1 => tr σ H1 fun xs H2 => Q (x :: xs) H2) : tCons ta tr σ H Q := q
theorem rd_nil {Q : List V → Hp → Prop} (q : Q [] H) : tNil σ H Q := q
theorem rd_test {Q : Bool → Hp → Prop} (q : te σ H fun x H' => ∃ k, x = .bl k ∧ Q k H') : tTest te σ H Q := q
theorem rd_B {Q : Bool → Hp → Prop} (q : te σ H fun x H' => ∃ k, x = .bl k ∧ Q k H') : tB te σ H Q := q
theorem rd_bl {c : Bool} {P : Bool → Prop} (q : P c) : ∃ k, V.bl c = V.bl k ∧ P k := ⟨c, rfl, q⟩
theorem rd_and {Q : Bool → Hp → Prop} (q : t σ H fun c H1 => if c = true then u σ H1 Q else Q false H1) : tAnd t u σ H Q := q
theorem rd_or {Q : Bool → Hp → Prop} (q : t σ H fun c H1 => if c = true then Q true H1 else u σ H1 Q) : tOr t u σ H Q := q
theorem rd_not {Q : Bool → Hp → Prop} (q : t σ H fun c H1 => Q (!c) H1) : tNot t σ H Q := q
theorem rd_andV (q : ta σ H fun x H1 => ∃ c, x = .bl c ∧ if c = true then tb σ H1 Q else Q (.bl false) H1) : tAndV ta tb σ H Q := q
theorem rd_orV (q : ta σ H fun x H1 => ∃ c, x = .bl c ∧ if c = true then Q (.bl true) H1 else tb σ H1 Q) : tOrV ta tb σ H Q := q
theorem rd_notV (q : ta σ H fun x H1 => ∃ c, x = .bl c ∧ Q (.bl (!c)) H1) : tNotV ta σ H Q := q
theorem rd_ifE (q : t σ H fun c H1 => if c = true then ta σ H1 Q else tb σ H1 Q) : tIf t ta tb σ H Q := q
theorem rd_chain {r r' : R2} (q : ta σ H fun x H1 => tb σ H1 fun y H2 => r x y H2 fun z H3 => ∃ k, z = .bl k ∧ if k = true then (tc σ H3 fun a H4 => r' y a H4 Q) else Q (.bl false) H3) : tChain r r' ta tb tc σ H Q := q
theorem rd_seq {s1 s2 : TS} (q : s1 { D with nx := s2 D } σ H) : tSeq s1 s2 D σ H := q
theorem rd_next (q : D.nx σ H) : tNext D σ H := q
theorem rd_if {s1 s2 : TS} (q : t σ H fun b H1 => if b = true then s1 D σ H1 else s2 D σ H1) : tIfS t s1 s2 D σ H := q
theorem rd_asg (q : te σ H fun x H1 => g x σ H1 D.nx) : tAsg te g D σ H := q
theorem rd_gname {i : Nat} {Q : L2.St → Hp → Prop} (q : Q (σ.set i (some v)) H) : gName i v σ H Q := q
theorem rd_gsub {ti to : TE} {ts : TSet} {Q : L2.St → Hp → Prop} (q : to σ H fun o H1 => ti σ H1 fun i H2 => ts o i v H2 fun H3 => Q σ H3) : gSub to ti ts v σ H Q := q
theorem rd_drop (q : te σ H fun _ H1 => D.nx σ H1) : tDrop te D σ H := q
theorem rd_ret (q : te σ H D.rt) : tRet te D σ H := q
theorem rd_retN (q : D.rt .non H) : tRetN D σ H := q
theorem rd_brk (q : D.bk σ H) : tBreak D σ H := q
theorem rd_cnt (q : D.ct σ H) : tCont D σ H := q
theorem rd_tup {tr : TA} (q : tr σ H fun xs H1 => xs.length ≤ sizeLine ∧ ∀ p, H1 p = none → Q (.ref p) (upd H1 p (.tup xs))) : tTup tr σ H Q := q
theorem rd_lst {tr : TA} (q : tr σ H fun xs H1 => xs.length ≤ sizeLine ∧ ∀ p, H1 p = none → Q (.ref p) (upd H1 p (.lst xs))) : tLst tr σ H Q := q
theorem rd_BM {T : String} {r : V → List V → Hp → VK → Prop} (q : te σ H fun x H1 => tyV K T x H1 ∧ tr σ H1 fun vs H2 => r x vs H2 Q) : tBM K T r te tr σ H Q := q
theorem rd_M1 {r : V → List V → Hp → VK → Prop} (q : ta σ H fun x H1 => (∃ a, x = .str a) ∧ tb σ H1 fun y H2 => r x [y] H2 Q) : tM1 r ta tb σ H Q := q
theorem rd_M0 {r : V → List V → Hp → VK → Prop} (q : ta σ H fun x H1 => (∃ a, x = .str a) ∧ r x [] H1 Q) : tM0 r ta σ H Q := q
theorem rd_isS {a : Str} {P : Prop} (q : P) : (∃ b, V.str a = V.str b) ∧ P := ⟨⟨a, rfl⟩, q⟩
theorem rd_call {sp : Sp} {dvs : List V} {E : XK} (q : tr σ H fun vs H1 => sp (vs ++ dvs) H1 Q E) : tCall sp dvs E tr σ H Q := q
theorem rd_andB {b b' : Bool} (hb : ∀ Qe : VK, Qe (.bl b') H → tb σ H Qe) (q : Q (.bl (b && b')) H) : ∃ c, V.bl b = .bl c ∧ if c = true then tb σ H Q else Q (.bl false) H := by
  refine ⟨b, rfl, ?_⟩
  cases b
  · exact iteF q
  · exact iteT (hb _ q)
theorem rd_orB {b b' : Bool} (hb : ∀ Qe : VK, Qe (.bl b') H → tb σ H Qe) (q : Q (.bl (b || b')) H) : ∃ c, V.bl b = .bl c ∧ if c = true then Q (.bl true) H else tb σ H Q := by
  refine ⟨b, rfl, ?_⟩
  cases b
  · exact iteF (hb _ q)
  · exact iteT q
theorem rd_tyL {a : Addr} {xs : List V} {P : Prop} (h : SqL K H a xs) (q : P) : tyV K "list" (.ref a) H ∧ P := ⟨.inl ⟨rfl, _, h⟩, q⟩
theorem rd_tyS {z : Str} {P : Prop} (q : P) : tyV K "str" (.str z) H ∧ P := ⟨rfl, q⟩
theorem rd_gtup {n : Nat} {ts : TGs} {a : Addr} {xs : List V} {Q : L2.St → Hp → Prop} (h : SqT K H a xs) (hn : xs.length = n) (q : ts xs σ H Q) : gTup K n ts (.ref a) σ H Q := ⟨a, xs, rfl, h, hn, q⟩
theorem rd_gcons {ts : TGs} {vs : List V} {Q : L2.St → Hp → Prop} (q : g v σ H fun σ' H' => ts vs σ' H' Q) : gCons g ts (v :: vs) σ H Q := ⟨v, vs, rfl, q⟩
theorem rd_gnil {Q : L2.St → Hp → Prop} (q : Q σ H) : gNil [] σ H Q := ⟨rfl, q⟩
theorem rd_sl {r : V → Option Int → Option Int → Hp → VK → Prop} {tl th : TO} (q : te σ H fun x H1 => tl σ H1 fun l H2 => th σ H2 fun u H3 => r x l u H3 Q) : tSl r te tl th σ H Q := q
theorem rd_nopart {Q : Option Int → Hp → Prop} (q : Q none H) : tNoPart σ H Q := q
theorem rd_part {Q : Option Int → Hp → Prop} (q : te σ H fun x H1 => ∃ i, x = .int i ∧ Q (some i) H1) : tPart te σ H Q := q
theorem rd_ii {i : Int} {P : Int → Prop} (q : P i) : ∃ k, V.int i = V.int k ∧ P k := ⟨i, rfl, q⟩
-- values
theorem rv_addI {i j : Int} (q : Q (.int (i + j)) H) : rAddD K (.int i) (.int j) H Q := .inl ⟨i, j, rfl, rfl, q⟩
theorem rv_addS {i j : Str} (h : i.length + j.length ≤ sizeLine) (q : Q (.str (i ++ j)) H) : rAddD K (.str i) (.str j) H Q := .inr (.inl ⟨i, j, rfl, rfl, h, q⟩)
theorem rv_addL {a b : Addr} {xs ys : List V} (ha : H a = some (.lst xs)) (hb : H b = some (.lst ys)) (h : xs.length + ys.length ≤ sizeLine) (q : ∀ p, H p = none → Q (.ref p) (upd H p (.lst (xs ++ ys)))) : rAddD K (.ref a) (.ref b) H Q := .inr (.inr (.inl ⟨a, b, xs, ys, rfl, rfl, ha, hb, h, q⟩))
theorem rv_sub {i j : Int} (q : Q (.int (i - j)) H) : rSubD (.int i) (.int j) H Q := ⟨i, j, rfl, rfl, q⟩
theorem rv_mulI {i j : Int} (c : CMul i j) (q : Q (.int (i * j)) H) : rMulD (.int i) (.int j) H Q := .inl ⟨i, j, rfl, rfl, c, q⟩
theorem rv_rep {l : Addr} {k : Int} {xs : List V} (h : H l = some (.lst xs)) (c : -(2 ^ 63) ≤ k ∧ k < 2 ^ 63 ∧ xs.length * k.toNat ≤ sizeLine) (q : ∀ p, H p = none → Q (.ref p) (upd H p (.lst (List.replicate k.toNat xs).flatten))) : rMulD (.ref l) (.int k) H Q := .inr ⟨l, k, xs, rfl, rfl, h, c.1, c.2.1, c.2.2, q⟩
theorem rv_mod {i j : Int} (c : j ≠ 0) (q : Q (.int (i.fmod j)) H) : rModD (.int i) (.int j) H Q := ⟨i, j, rfl, rfl, c, q⟩
theorem rv_div {i j : Int} (c : CDivW i j) (q : Q (.int (i / j)) H) : rDivD (.int i) (.int j) H Q := ⟨i, j, rfl, rfl, c, q⟩
theorem rv_pow {i j : Int} (c : CPow i j) (q : Q (.int (i ^ j.toNat)) H) : rPowD (.int i) (.int j) H Q := ⟨i, j, rfl, rfl, c, q⟩
theorem rv_lt {i j : Int} (q : Q (.bl (decide (i < j))) H) : rLtD (.int i) (.int j) H Q := ⟨i, j, rfl, rfl, q⟩
theorem rv_le {i j : Int} (q : Q (.bl (decide (i ≤ j))) H) : rLeD (.int i) (.int j) H Q := ⟨i, j, rfl, rfl, q⟩
theorem rv_gt {i j : Int} (q : Q (.bl (decide (j < i))) H) : rGtD (.int i) (.int j) H Q := ⟨i, j, rfl, rfl, q⟩
theorem rv_ge {i j : Int} (q : Q (.bl (decide (j ≤ i))) H) : rGeD (.int i) (.int j) H Q := ⟨i, j, rfl, rfl, q⟩
theorem dec_int (i j : Int) : decide (V.int i = V.int j) = decide (i = j) := decide_eq_decide.mpr ⟨V.int.inj, fun e => by rw [e]⟩
theorem dec_str (i j : Str) : decide (V.str i = V.str j) = decide (i = j) := decide_eq_decide.mpr ⟨V.str.inj, fun e => by rw [e]⟩
theorem dec_bl (i j : Bool) : decide (V.bl i = V.bl j) = decide (i = j) := decide_eq_decide.mpr ⟨V.bl.inj, fun e => by rw [e]⟩
theorem rv_eqI {i j : Int} (q : Q (.bl (decide (i = j))) H) : rEq (.int i) (.int j) H Q := ⟨rfl, by rw [dec_int]; exact q⟩
theorem rv_eqS {i j : Str} (q : Q (.bl (decide (i = j))) H) : rEq (.str i) (.str j) H Q := ⟨rfl, by rw [dec_str]; exact q⟩
theorem rv_eqB {i j : Bool} (q : Q (.bl (decide (i = j))) H) : rEq (.bl i) (.bl j) H Q := ⟨rfl, by rw [dec_bl]; exact q⟩
theorem rv_neI {i j : Int} (q : Q (.bl (!decide (i = j))) H) : rNe (.int i) (.int j) H Q := ⟨rfl, by rw [dec_int]; exact q⟩
theorem rv_neS {i j : Str} (q : Q (.bl (!decide (i = j))) H) : rNe (.str i) (.str j) H Q := ⟨rfl, by rw [dec_str]; exact q⟩
theorem rv_neB {i j : Bool} (q : Q (.bl (!decide (i = j))) H) : rNe (.bl i) (.bl j) H Q := ⟨rfl, by rw [dec_bl]; exact q⟩
theorem rv_ixL {p : Addr} {xs : List V} {i : Int} (h : SqL K H p xs) (c : atI xs i = some v) (q : Q v H) : rIxD K (.ref p) (.int i) H Q := .inl ⟨p, xs, i, v, rfl, rfl, h, c, q⟩
theorem rv_ixT {p : Addr} {xs : List V} {i : Int} (h : SqT K H p xs) (c : atI xs i = some v) (q : Q v H) : rIxD K (.ref p) (.int i) H Q := .inr (.inl ⟨p, xs, i, v, rfl, rfl, h, c, q⟩)
theorem rv_ixS {z : Str} {i : Int} {c : Nat} (h : z.length ≤ sizeLine) (e : atI z.cps.toList i = some c) (q : Q (.str ⟨#[c]⟩) H) : rIxD K (.str z) (.int i) H Q := .inr (.inr ⟨z, i, c, rfl, rfl, h, e, q⟩)
theorem rv_inS {c : Nat} {z : Str} (q : Q (.bl (decide (c ∈ z.cps.toList))) H) : rInD K false (.str ⟨#[c]⟩) (.str z) H Q := .inr ⟨c, z, rfl, rfl, q⟩
theorem rv_ninS {c : Nat} {z : Str} (q : Q (.bl (!decide (c ∈ z.cps.toList))) H) : rInD K true (.str ⟨#[c]⟩) (.str z) H Q := .inr ⟨c, z, rfl, rfl, q⟩
theorem rv_inL {p : Addr} {xs : List V} (h : SqL K H p xs) (hx : flatV x = true) (hf : xs.all flatV = true) (q : Q (.bl (inV x xs)) H) : rInD K false x (.ref p) H Q := .inl ⟨p, xs, rfl, .inl h, hx, hf, q⟩
theorem rv_ninL {p : Addr} {xs : List V} (h : SqL K H p xs) (hx : flatV x = true) (hf : xs.all flatV = true) (q : Q (.bl (!inV x xs)) H) : rInD K true x (.ref p) H Q := .inl ⟨p, xs, rfl, .inl h, hx, hf, q⟩
theorem rv_all {p : Addr} {bs : List Bool} (h : SqL K H p (bs.map V.bl)) (q : Q (.bl (bs.all id)) H) : rAll K [.ref p] H Q := ⟨p, bs, rfl, h, q⟩
theorem rv_int {i : Int} (q : Q (.int i) H) : rIntD [.int i] H Q := .inl ⟨i, rfl, q⟩
theorem rv_lenL {p : Addr} {xs : List V} (h : SqL K H p xs) (q : Q (.int xs.length) H) : rLenD K [.ref p] H Q := ⟨_, _, rfl, .inl ⟨xs, h, rfl⟩, q⟩
theorem rv_lenT {p : Addr} {xs : List V} (h : SqT K H p xs) (q : Q (.int xs.length) H) : rLenD K [.ref p] H Q := ⟨_, _, rfl, .inr ⟨xs, h, rfl⟩, q⟩
theorem rv_lenS {z : Str} (h : z.length ≤ sizeLine) (q : Q (.int z.length) H) : rLenD K [.str z] H Q := ⟨_, _, rfl, ⟨h, rfl⟩, q⟩
theorem rv_abs {i : Int} (q : Q (.int (if i < 0 then -i else i)) H) : rAbsD [.int i] H Q := ⟨i, rfl, q⟩
theorem rv_max2 {i j : Int} (q : Q (.int (if j > i then j else i)) H) : rMax2D [.int i, .int j] H Q := ⟨i, j, rfl, q⟩
theorem rv_min2 {i j : Int} (q : Q (.int (if j < i then j else i)) H) : rMin2D [.int i, .int j] H Q := ⟨i, j, rfl, q⟩
theorem rv_ord {c : Nat} (q : Q (.int (c : Int)) H) : rOrdD [.str ⟨#[c]⟩] H Q := ⟨_, rfl, rfl, q⟩
theorem rv_setL {p : Addr} {xs : List V} {k : Int} {j : Nat} {Q : Hp → Prop} (h : H p = some (.lst xs)) (c : ixN xs.length k = some j) (q : Q (upd H p (.lst (xs.set j v)))) : rSetL (.ref p) (.int k) v H Q := ⟨p, xs, k, j, rfl, rfl, h, c, q⟩
theorem rv_app {l : Addr} {xs : List V} (h : H l = some (.lst xs)) (c : xs.length < sizeLine) (q : Q .non (upd H l (.lst (xs ++ [y])))) : rAppend (.ref l) [y] H Q := ⟨l, xs, y, rfl, rfl, h, c, q⟩
theorem rv_ext {l b : Addr} {xs zs : List V} (h : H l = some (.lst xs)) (h2 : H b = some (.lst zs)) (c : xs.length + zs.length ≤ sizeLine) (q : Q .non (upd H l (.lst (xs ++ zs)))) : rExtend (.ref l) [.ref b] H Q := ⟨l, b, xs, zs, rfl, rfl, h, h2, c, q⟩
theorem rv_slL {p : Addr} {xs : List V} {lo hi : Option Int} (h : SqL K H p xs) (q : ∀ a, H a = none → Q (.ref a) (upd H a (.lst (cutV xs lo hi)))) : rSlD K (.ref p) lo hi H Q := .inl ⟨p, xs, rfl, h, q⟩
theorem rv_slS {z : Str} {lo hi : Option Int} (h : z.length ≤ sizeLine) (q : Q (.str (cutS z lo hi)) H) : rSlD K (.str z) lo hi H Q := .inr ⟨z, rfl, h, q⟩
theorem rv_neg {i : Int} (q : Q (.int (-i)) H) : rU (fun i => .int (-i)) (.int i) H Q := ⟨i, rfl, q⟩
end
theorem same_upd {H : Hp} {p : Addr} {o : HO} (h : H p = none) : Same H (upd H p o) := fun b x e => by
  rw [upd_ne (ne_of_none e h)]
  exact e
/-- all that stands elsewhere than at b is kept -/
def Off (b : Addr) (H H' : Hp) : Prop := ∀ a o, a ≠ b → H a = some o → H' a = some o
theorem Off.get {b : Addr} {H H' : Hp} {a : Addr} {o : HO} (h : Off b H H') (n : a ≠ b) (e : H a = some o) : H' a = some o := h a o n e
theorem Off.refl (b : Addr) (H : Hp) : Off b H H := fun _ _ _ e => e
theorem Off.trans {b : Addr} {H H1 H2 : Hp} (x : Off b H H1) (y : Off b H1 H2) : Off b H H2 := fun a o n e => y a o n (x a o n e)
theorem Off.new {b : Addr} {H H1 : Hp} {p : Addr} {o : HO} (x : Off b H H1) (h : H1 p = none) : Off b H (upd H1 p o) := fun a u n e => by
  have z := x a u n e
  rw [upd_ne (ne_of_none z h)]
  exact z
theorem Off.set {b : Addr} {H H1 : Hp} {o : HO} (x : Off b H H1) : Off b H (upd H1 b o) := fun a u n e => by
  rw [upd_ne n]
  exact x a u n e
theorem Off.mut {b : Addr} {H H1 : Hp} {p : Addr} {o : HO} (x : Off b H H1) (h : H p = none) : Off b H (upd H1 p o) := fun a u n e => by
  rw [upd_ne (ne_of_none e h)]
  exact x a u n e
theorem Off.of_same {b : Addr} {H H1 : Hp} (x : Same H H1) : Off b H H1 := fun a o _ e => x a o e
theorem Off.fresh {b : Addr} {H H1 : Hp} {p : Addr} (x : Off b H H1) (n : p ≠ b) (h : H1 p = none) : H p = none := by
  cases e : H p with
  | none => rfl
  | some o => rw [x p o n e] at h; cases h
theorem Off.seq {K : PySem.W.Frag} {b : Addr} {H H' : Hp} {a : Addr} {xs : List V} (h : Off b H H') (n : a ≠ b) (e : SqL K H a xs) : SqL K H' a xs := by
  rcases e with e | e
  · rcases e with e | ⟨o, e⟩
    · exact .inl (.inl (h a _ n e))
    · exact .inl (.inr ⟨o, h a _ n e⟩)
  · exact .inr e
theorem Off.seqT {K : PySem.W.Frag} {b : Addr} {H H' : Hp} {a : Addr} {xs : List V} (h : Off b H H') (n : a ≠ b) (e : SqT K H a xs) : SqT K H' a xs := by
  rcases e with e | e
  · rcases e with e | ⟨o, e⟩
    · exact .inl (.inl (h a _ n e))
    · exact .inl (.inr ⟨o, h a _ n e⟩)
  · exact .inr e
theorem sq_set {K : PySem.W.Frag} {H : Hp} {b c : Addr} {o : HO} {xs : List V} (n : c ≠ b) (e : SqL K H c xs) : SqL K (upd H b o) c xs := (Off.refl b H).set.seq n e
theorem sq_new {K : PySem.W.Frag} {H : Hp} {p c : Addr} {o : HO} {xs : List V} (n : H p = none) (e : SqL K H c xs) : SqL K (upd H p o) c xs := (same_upd n).seq e
theorem hp_set {H : Hp} {b a : Addr} {o : HO} {u : Option HO} (n : a ≠ b) (e : H a = u) : upd H b o a = u := (upd_ne n).trans e
theorem hp_new {H : Hp} {p a : Addr} {o u : HO} (n : H p = none) (e : H a = some u) : upd H p o a = some u := same_upd n _ _ e
theorem iteD {p A B : Prop} [Decidable p] (h1 : p → A) (h2 : ¬ p → B) : if decide p = true then A else B := by
  by_cases h : p
  · rw [if_pos (decide_eq_true h)]; exact h1 h
  · rw [if_neg (by simpa using h)]; exact h2 h
theorem iteND {p A B : Prop} [Decidable p] (h1 : ¬ p → A) (h2 : p → B) : if (!decide p) = true then A else B := by
  by_cases h : p
  · rw [if_neg (by simpa using h)]; exact h2 h
  · rw [if_pos (by simpa using h)]; exact h1 h
theorem iteB {b : Bool} {A B : Prop} (h1 : b = true → A) (h2 : b = false → B) : if b = true then A else B := by
  cases b
  · rw [if_neg Bool.false_ne_true]; exact h2 rfl
  · rw [if_pos rfl]; exact h1 rfl
theorem sz4 {n : Nat} (h : n ≤ 100000) : n ≤ sizeLine := Nat.le_trans h (by decide)
theorem sz4' {n : Nat} (h : n ≤ 100000) : n < sizeLine := Nat.lt_of_le_of_lt h (by decide)
theorem at_ints {cs : List Int} {i : Int} (h0 : 0 ≤ i) (h1 : i < ((cs.map V.int).length : Int)) : atI (cs.map V.int) i = some (.int (cs.getD i.toNat 0)) := by
  obtain ⟨j, rfl⟩ := Int.eq_ofNat_of_zero_le h0
  have hl : j < cs.length := by rw [List.length_map] at h1; omega
  refine atI_nat ?_
  rw [List.getElem?_map, List.getElem?_eq_getElem hl]
  simp [List.getD_eq_getElem?_getD, hl]
theorem fm0 {x m : Int} (h : 0 < m) : 0 ≤ x.fmod m := by rw [Int.fmod_eq_emod_of_nonneg _ (by omega)]; exact Int.emod_nonneg _ (by omega)
theorem fm1 {x m : Int} (h : 0 < m) : x.fmod m < m := by rw [Int.fmod_eq_emod_of_nonneg _ (by omega)]; exact Int.emod_lt_of_pos _ h
theorem mul_fm {x c j : Int} (h : 0 < c) (h2 : c ≤ 2 ^ 64) : CMul (x.fmod c) j := .inl ⟨by have := fm0 (x := x) h; omega, by have := fm1 (x := x) h; omega⟩
theorem div_m {z m : Int} (h : 0 < m) (h2 : m < 2 ^ 1000) : CDivW z m := wide_div (b := 1000) h (by omega) (by decide) (by decide)
theorem div97 {z : Int} : CDivW z 97 := wide_div (b := 8) (by decide) (by decide) (by decide) (by decide)
theorem div3 {z : Int} : CDivW z 3 := wide_div (b := 8) (by decide) (by decide) (by decide) (by decide)
theorem div2 {z : Int} : CDivW z 2 := wide_div (b := 8) (by decide) (by decide) (by decide) (by decide)
def BagAt (b c : Addr) (cs : List Int) (H : Hp) : Prop := ∃ (i z s n k : Int), H b = some (.lst [.ref c, .int i, .int z, .int s, .int n, .int k]) ∧ c ≠ b ∧ H c = some (.lst (cs.map V.int)) ∧ 0 ≤ i ∧ 0 ≤ z
theorem BagAt.ne {b c : Addr} {cs : List Int} {H : Hp} {p : Addr} (x : BagAt b c cs H) (h : H p = none) : p ≠ b := by
  obtain ⟨i, z, s, n, k, e, _⟩ := x
  exact (ne_of_none e h).symm
theorem BagAt.ne2 {b c : Addr} {cs : List Int} {H : Hp} {p : Addr} (x : BagAt b c cs H) (h : H p = none) : p ≠ c := by
  obtain ⟨i, z, s, n, k, e, _, e2, _⟩ := x
  exact (ne_of_none e2 h).symm
theorem BagAt.put {b c : Addr} {cs : List Int} {H : Hp} {p : Addr} {o : HO} (x : BagAt b c cs H) (h : p ≠ b) (h2 : p ≠ c) : BagAt b c cs (upd H p o) := by
  obtain ⟨i, z, s, n, k, e, nc, hc, h1, h2'⟩ := x
  exact ⟨i, z, s, n, k, (upd_ne h.symm).trans e, nc, (upd_ne h2.symm).trans hc, h1, h2'⟩
theorem BagAt.new {b c : Addr} {cs : List Int} {H : Hp} {p : Addr} {o : HO} (x : BagAt b c cs H) (h : H p = none) : BagAt b c cs (upd H p o) := x.put (x.ne h) (x.ne2 h)
theorem BagAt.same {b c : Addr} {cs : List Int} {H H' : Hp} (x : BagAt b c cs H) (f : Same H H') : BagAt b c cs H' := by
  obtain ⟨i, z, s, n, k, e, nc, hc, h1, h2⟩ := x
  exact ⟨i, z, s, n, k, f _ _ e, nc, f _ _ hc, h1, h2⟩
def spDraw : Sp := fun vs H Q _ => ∃ (b c : Addr) (cs : List Int) (m : Int), vs = [.ref b, .int m] ∧ 0 < m ∧ m < 2 ^ 1000 ∧ BagAt b c cs H ∧ ∀ H' (r : Int), Off b H H' → BagAt b c cs H' → 0 ≤ r → r < m → Q (.int r) H'
def spBag (K : PySem.W.Frag) : Sp := fun vs H Q _ => ∃ (a : Addr) (ns : List Int), vs = [.ref a] ∧ SqL K H a (ns.map V.int) ∧ ns.length ≤ 63 ∧ ∀ H' b c cs, Same H H' → H b = none → BagAt b c cs H' → Q (.ref b) H'
theorem at_all {xs : List V} {P : V → Prop} (h : ∀ v ∈ xs, P v) {i : Int} (h0 : 0 ≤ i) (h1 : i < (xs.length : Int)) : ∃ v, atI xs i = some v ∧ P v := by
  obtain ⟨j, rfl⟩ := Int.eq_ofNat_of_zero_le h0
  have hl : j < xs.length := by omega
  exact ⟨xs[j], atI_nat (List.getElem?_eq_getElem hl), h _ (List.getElem_mem hl)⟩
theorem at_str {z : Str} {i : Int} (h0 : 0 ≤ i) (h1 : i < (z.length : Int)) : ∃ c, atI z.cps.toList i = some c ∧ c ∈ z.cps.toList := by
  obtain ⟨j, rfl⟩ := Int.eq_ofNat_of_zero_le h0
  have hl : j < z.cps.toList.length := by have : z.cps.toList.length = z.length := by simp [Str.length]
                                          omega
  exact ⟨z.cps.toList[j], atI_nat (List.getElem?_eq_getElem hl), List.getElem_mem hl⟩
end D0
namespace D0
open PySem PySem.Spec PyProof.Rows L2
section
variable {K : PySem.W.Frag} {σ : L2.St} {H : Hp} {Q : VK} {te tl : TE} {ta : TA} {vs : List Nat} {j : Nat}
theorem rd_yes {Q : Bool → Hp → Prop} (q : Q true H) : tYes σ H Q := q
theorem rd_callN {n m : Nat} {sp : Sp} {gV : List V → List V → List V} {E : XK} {t tk : TA} (q : t σ H fun vs H1 => tk σ H1 fun zs H2 => vs.length = n ∧ zs.length = m ∧ sp (gV vs zs) H2 Q E) : tCallN n m sp gV E t tk σ H Q := q
theorem rv_slSany {z : Str} {lo hi : Option Int} (h : z.length ≤ sizeLine) (q : ∀ y : Str, y.length ≤ z.length → Q (.str y) H) : rSlD K (.str z) lo hi H Q := rv_slS h (q _ (cutS_length z lo hi))
theorem ones (us : List Nat) : (us.map fun _ => 1).sum = us.length := by
  induction us with
  | nil => rfl
  | cons x r ih => rw [List.map_cons, List.sum_cons, ih, List.length_cons]; omega
theorem strlen_app (a b : Str) : (a ++ b).length = a.length + b.length := PySem.Str.length_append a b
theorem dRevL {X : Cx} (K : PySem.W.Frag) {e : Expr} {te : TE} {k : Nat} {p1 p2 p3 pos : Pos} (he : PE X e te) (hK : X.K = K := by rfl) : PE X (.Subscript e (.Slice none none (some (.UnaryOp .USub (.Constant (.int 1) k p1) p2)) p3) pos) (tRevL K te) := by subst hK; exact pe_revL he
theorem rd_revL (q : te σ H fun x H1 => ∃ a xs, x = .ref a ∧ SqL K H1 a xs ∧ ∀ p, H1 p = none → Q (.ref p) (upd H1 p (.lst xs.reverse))) : tRevL K te σ H Q := q
theorem rv_revL {a : Addr} {xs : List V} {R : Addr → List V → Prop} (h : SqL K H a xs) (q : R a xs) : ∃ a' xs', V.ref a = .ref a' ∧ SqL K H a' xs' ∧ R a' xs' := ⟨a, xs, rfl, h, q⟩
theorem rd_rng1 {R : It → Hp → Prop} (q : ta σ H fun vs H1 => ∃ j : Int, vs = [.int j] ∧ -(2 ^ 62) ≤ j ∧ j < 2 ^ 62 ∧ R (Itr 0 j.toNat) H1) : iRng1 ta σ H R := q
theorem rd_ss {z : Str} {P : Str → Prop} (q : P z) : ∃ k, V.str z = V.str k ∧ P k := ⟨z, rfl, q⟩
theorem rv_up {z : Str} {P : Str → Prop} (h : z.length ≤ 5592405) (q : P z) : ∃ a, V.str z = V.str a ∧ ([] : List V) = [] ∧ a.length ≤ 5592405 ∧ P a := ⟨z, rfl, rfl, h, q⟩
theorem rd_iList {R : It → Hp → Prop} (q : te σ H fun x H1 => ∃ a, x = .ref a ∧ (∃ xs, SqL K H1 a xs) ∧ R (Itl K a) H1) : iList K te σ H R := q
theorem rv_iL {a : Addr} {xs : List V} {R : Addr → Prop} (h : SqL K H a xs) (q : R a) : ∃ a', V.ref a = .ref a' ∧ (∃ xs, SqL K H a' xs) ∧ R a' := ⟨a, rfl, ⟨xs, h⟩, q⟩
theorem rd_for {wi : TI} {g : TG} {tb : TS} {D : Ends} (q : wi σ H fun J H1 => ∃ W : Nat → Nat → L2.St → Hp → Prop, (∃ m, W 0 m σ H1) ∧ ∀ i m σ H, W i m σ H →
    (J.stop i H ∧ D.nx σ H) ∨ (J.go i H ∧ ∃ N : L2.St → Hp → Prop, (∀ σ' H', N σ' H' → ∃ m', m' < m ∧ W (i + 1) m' σ' H') ∧ ∀ x H', J.yld i H x H' → g x σ H' fun σ2 H2 => tb { D with nx := N, ct := N, bk := D.nx } σ2 H2)) : tFor wi g tb D σ H := q
theorem rv_isiB {b : Bool} {ty : String} {r : Bool} (h : kitB "bool" ty = some r) (q : Q (.bl r) H) : rIsi K [.bl b, .ty ty] H Q := ⟨_, _, _, _, _, rfl, .ty ty, .base (.bl b), kit_ty h, q⟩
theorem rv_isiI {b : Int} {ty : String} {r : Bool} (h : kitB "int" ty = some r) (q : Q (.bl r) H) : rIsi K [.int b, .ty ty] H Q := ⟨_, _, _, _, _, rfl, .ty ty, .base (.int b), kit_ty h, q⟩
theorem rv_isiN {ty : String} {r : Bool} (h : kitB "NoneType" ty = some r) (q : Q (.bl r) H) : rIsi K [.non, .ty ty] H Q := ⟨_, _, _, _, _, rfl, .ty ty, .base .non, kit_ty h, q⟩
theorem rv_isiL {a : Addr} {xs : List V} {ty : String} {r : Bool} (e : H a = some (.lst xs)) (h : kitB "list" ty = some r) (q : Q (.bl r) H) : rIsi K [.ref a, .ty ty] H Q := ⟨_, _, _, _, _, rfl, .ty ty, .base (.lst e), kit_ty h, q⟩
theorem rv_isiT {a : Addr} {xs : List V} {ty : String} {r : Bool} (e : H a = some (.tup xs)) (h : kitB "tuple" ty = some r) (q : Q (.bl r) H) : rIsi K [.ref a, .ty ty] H Q := ⟨_, _, _, _, _, rfl, .ty ty, .base (.tup e), kit_ty h, q⟩
theorem rv_isiS {b : Str} {ty : String} {r : Bool} (h : kitB "str" ty = some r) (q : Q (.bl r) H) : rIsi K [.str b, .ty ty] H Q := ⟨_, _, _, _, _, rfl, .ty ty, .base (.str b), kit_ty h, q⟩
theorem isi_bool_bool : kitB "bool" "bool" = some true := by decide +kernel
theorem isi_bool_int : kitB "bool" "int" = some true := by decide +kernel
theorem isi_bool_str : kitB "bool" "str" = some false := by decide +kernel
theorem isi_bool_list : kitB "bool" "list" = some false := by decide +kernel
theorem isi_bool_tuple : kitB "bool" "tuple" = some false := by decide +kernel
theorem isi_bool_dict : kitB "bool" "dict" = some false := by decide +kernel
theorem isi_int_bool : kitB "int" "bool" = some false := by decide +kernel
theorem isi_int_int : kitB "int" "int" = some true := by decide +kernel
theorem isi_int_str : kitB "int" "str" = some false := by decide +kernel
theorem isi_int_list : kitB "int" "list" = some false := by decide +kernel
theorem isi_int_tuple : kitB "int" "tuple" = some false := by decide +kernel
theorem isi_int_dict : kitB "int" "dict" = some false := by decide +kernel
theorem isi_str_bool : kitB "str" "bool" = some false := by decide +kernel
theorem isi_str_int : kitB "str" "int" = some false := by decide +kernel
theorem isi_str_str : kitB "str" "str" = some true := by decide +kernel
theorem isi_str_list : kitB "str" "list" = some false := by decide +kernel
theorem isi_str_tuple : kitB "str" "tuple" = some false := by decide +kernel
theorem isi_str_dict : kitB "str" "dict" = some false := by decide +kernel
theorem isi_list_bool : kitB "list" "bool" = some false := by decide +kernel
theorem isi_list_int : kitB "list" "int" = some false := by decide +kernel
theorem isi_list_str : kitB "list" "str" = some false := by decide +kernel
theorem isi_list_list : kitB "list" "list" = some true := by decide +kernel
theorem isi_list_tuple : kitB "list" "tuple" = some false := by decide +kernel
theorem isi_list_dict : kitB "list" "dict" = some false := by decide +kernel
theorem isi_tuple_bool : kitB "tuple" "bool" = some false := by decide +kernel
theorem isi_tuple_int : kitB "tuple" "int" = some false := by decide +kernel
theorem isi_tuple_str : kitB "tuple" "str" = some false := by decide +kernel
theorem isi_tuple_list : kitB "tuple" "list" = some false := by decide +kernel
theorem isi_tuple_tuple : kitB "tuple" "tuple" = some true := by decide +kernel
theorem isi_tuple_dict : kitB "tuple" "dict" = some false := by decide +kernel
theorem isi_dict_bool : kitB "dict" "bool" = some false := by decide +kernel
theorem isi_dict_int : kitB "dict" "int" = some false := by decide +kernel
theorem isi_dict_str : kitB "dict" "str" = some false := by decide +kernel
theorem isi_dict_list : kitB "dict" "list" = some false := by decide +kernel
theorem isi_dict_tuple : kitB "dict" "tuple" = some false := by decide +kernel
theorem isi_dict_dict : kitB "dict" "dict" = some true := by decide +kernel
theorem isi_NoneType_bool : kitB "NoneType" "bool" = some false := by decide +kernel
theorem isi_NoneType_int : kitB "NoneType" "int" = some false := by decide +kernel
theorem isi_NoneType_str : kitB "NoneType" "str" = some false := by decide +kernel
theorem isi_NoneType_list : kitB "NoneType" "list" = some false := by decide +kernel
theorem isi_NoneType_tuple : kitB "NoneType" "tuple" = some false := by decide +kernel
theorem isi_NoneType_dict : kitB "NoneType" "dict" = some false := by decide +kernel
theorem rd_wipe {σ1 σ2 : L2.St} {R : Prop} (h : σ1 = σ2) (q : R) : σ1 = σ2 ∧ R := ⟨h, q⟩
theorem upd_lst {H : Hp} {D : Addr} {o u : HO} : upd (upd H D o) D u = upd H D u := upd_upd
/-- [e for x in xs], e of x a value f x -/
theorem lc_map {a : Addr} {xs : List V} (f : V → V) (hl : ∀ Qe : VK, Qe (.ref a) H → tl σ H Qe) (hs : SqL K H a xs) (hz : xs.length < sizeLine) (hw : ∀ x, wipe ((wipe σ vs).set j (some x)) vs = wipe σ vs)
    (he : ∀ (i : Nat) (x : V) (H' : Hp), xs[i]? = some x → Same H H' → ∀ Qe : VK, (∀ H'', Same H' H'' → Qe (f x) H'') → te ((wipe σ vs).set j (some x)) H' Qe)
    (q : ∀ D H', H D = none → Same H H' → H' D = some (.lst (xs.map f)) → Q (.ref D) H') : tLc (iList K tl) (gName j) tYes te vs σ H Q := by
  refine hl _ ⟨a, rfl, ⟨_, hs⟩, fun D hD => ?_⟩
  refine lc_list (K := K) (a := a) (xs := xs) (fun i H' => Same H H' ∧ H' D = some (.lst ((xs.take i).map f))) ⟨same_upd hD, upd_same⟩ (fun i H' _ h => h.1.seq hs) ?_ ?_
  · rintro i x H' hx ⟨s, e⟩
    refine ⟨hw x, rd_yes (iteT ?_)⟩
    refine he i x H' hx s _ fun H'' s2 => ?_
    refine ⟨_, s2 _ _ e, ?_, ?_, ?_⟩
    · rw [List.length_map, List.length_take]; omega
    · intro b o eb
      have nb : b ≠ D := ne_of_none eb hD
      rw [upd_ne nb]
      exact s2 _ _ (s _ _ eb)
    · rw [upd_same, List.take_add_one, hx, List.map_append]; rfl
  · rintro H' ⟨s, e⟩
    rw [List.take_length] at e
    exact q D H' hD s e
/-- [e for k in range(n)], e drawing from the bag at b; every item has P -/
theorem lc_draw {b c : Addr} {cs : List Int} {n : Nat} (P : V → Prop) (hn : n ≤ 1000000) (hl : ∀ Qe : List V → Hp → Prop, Qe [.int (n : Int)] H → ta σ H Qe) (B : BagAt b c cs H) (hw : ∀ x, wipe ((wipe σ vs).set j (some x)) vs = wipe σ vs)
    (he : ∀ (i : Nat) (H' : Hp), i < n → Off b H H' → BagAt b c cs H' → ∀ Qe : VK, (∀ (y : V) (H'' : Hp), Off b H' H'' → BagAt b c cs H'' → P y → Qe y H'') → te ((wipe σ vs).set j (some (.int (i : Int)))) H' Qe)
    (q : ∀ D ys H', H D = none → Off b H H' → BagAt b c cs H' → H' D = some (.lst ys) → ys.length = n → (∀ y ∈ ys, P y) → Q (.ref D) H') : tLc (iRng1 ta) (gName j) tYes te vs σ H Q := by
  have hz : n < sizeLine := Nat.lt_of_le_of_lt hn (by decide)
  refine hl _ ⟨(n : Int), rfl, by omega, by omega, fun D hD => ?_⟩
  have hDb : D ≠ b := B.ne hD
  have hDc : D ≠ c := B.ne2 hD
  refine lc_range (lo := 0) (n := ((n : Int)).toNat) (fun i H' => ∃ ys : List V, Off b H H' ∧ BagAt b c cs H' ∧ H' D = some (.lst ys) ∧ ys.length = i ∧ ∀ y ∈ ys, P y) ⟨[], (Off.refl b H).new hD, B.new hD, upd_same, rfl, fun y h => nomatch h⟩ ?_ ?_
  · rintro i H' hi ⟨ys, f, B', e, el, hp⟩
    refine ⟨hw _, rd_yes (iteT ?_)⟩
    rw [show (0 : Int) + (i : Int) = (i : Int) by omega]
    refine he i H' (by omega) f B' _ fun y H'' f2 B2 py => ?_
    have e2 := f2.get hDb e
    refine ⟨_, e2, by omega, ys ++ [y], (f.trans f2).mut hD, B2.put hDb hDc, upd_same, by simp [el], ?_⟩
    intro y' hy
    rcases List.mem_append.mp hy with hy | hy
    · exact hp y' hy
    · rw [List.mem_singleton.mp hy]; exact py
  · rintro H' ⟨ys, f, B', e, el, hp⟩
    exact q D ys H' hD f B' e (by omega) hp
/-- [e for s in text], e of a sign a value f c -/
theorem lc_smap {z : Str} (f : Nat → V) (hl : ∀ Qe : VK, Qe (.str z) H → tl σ H Qe) (hz : z.length < sizeLine) (hw : ∀ x, wipe ((wipe σ vs).set j (some x)) vs = wipe σ vs)
    (he : ∀ (i : Nat) (c : Nat) (H' : Hp), z.cps[i]? = some c → Same H H' → ∀ Qe : VK, (∀ H'', Same H' H'' → Qe (f c) H'') → te ((wipe σ vs).set j (some (.str ⟨#[c]⟩))) H' Qe)
    (q : ∀ D H', H D = none → Same H H' → H' D = some (.lst (z.cps.toList.map f)) → Q (.ref D) H') : tLc (iStr tl) (gName j) tYes te vs σ H Q := by
  refine hl _ ⟨z, rfl, fun D hD => ?_⟩
  refine ⟨fun i m H' => i + m = z.cps.size ∧ Same H H' ∧ H' D = some (.lst ((z.cps.toList.take i).map f)), ⟨z.cps.size, by omega, same_upd hD, upd_same⟩, ?_⟩
  rintro i m H' ⟨em, s, e⟩
  by_cases hi : i < z.cps.size
  · refine .inr ⟨hi, fun H2 => Same H H2 ∧ H2 D = some (.lst ((z.cps.toList.take (i + 1)).map f)), fun H2 h2 => ⟨m - 1, by omega, by omega, h2.1, h2.2⟩, ?_⟩
    rintro x H2 ⟨rfl, c, hc, rfl⟩
    refine ⟨hw _, rd_yes (iteT ?_)⟩
    refine he i c H2 hc s _ fun H'' s2 => ?_
    refine ⟨_, s2 _ _ e, ?_, ?_, ?_⟩
    · rw [List.length_map, List.length_take]; show _ < sizeLine; have : z.length = z.cps.size := rfl; have : z.cps.toList.length = z.cps.size := by simp
      omega
    · intro b o eb
      have nb : b ≠ D := ne_of_none eb hD
      rw [upd_ne nb]
      exact s2 _ _ (s _ _ eb)
    · have hc' : z.cps.toList[i]? = some c := by rw [Array.getElem?_toList]; exact hc
      rw [upd_same, List.take_add_one, hc', List.map_append]; rfl
  · refine .inl ⟨by show z.cps.size ≤ i; omega, ?_⟩
    have ei : z.cps.toList.take i = z.cps.toList := List.take_of_length_le (by simp; omega)
    rw [ei] at e
    exact q D H' hD s e
end
end D0
namespace D0
open PySem PySem.Spec PyProof.Rows L2
def TS (H H' : Hp) : Prop := ∀ a xs, H a = some (.tup xs) → H' a = some (.tup xs)
theorem TS.refl (H : Hp) : TS H H := fun _ _ e => e
theorem TS.trans {H H1 H2 : Hp} (x : TS H H1) (y : TS H1 H2) : TS H H2 := fun a xs e => y a xs (x a xs e)
theorem TS.of_same {H H' : Hp} (x : Same H H') : TS H H' := fun a xs e => x a _ e
theorem TS.new {H H1 : Hp} {p : Addr} {o : HO} (x : TS H H1) (h : H1 p = none) : TS H (upd H1 p o) := x.trans (.of_same (same_upd h))
theorem TS.put {H H1 : Hp} {p : Addr} {ys : List V} {o : HO} (x : TS H H1) (h : H1 p = some (.lst ys)) : TS H (upd H1 p o) := fun a xs e => by
  have z := x a xs e
  rw [upd_ne (ne_of z h (fun q => by cases q))]
  exact z
theorem BagAt.ts {b c : Addr} {cs : List Int} {H H' : Hp} (x : BagAt b c cs H) (f : Off b H H') : TS H H' := fun a xs e => by
  obtain ⟨i, z, s, n, k, eb, _⟩ := x
  exact f a _ (ne_of e eb (fun q => by cases q)) e
/-- a tuple of ints -/
def Tn (H : Hp) (v : V) (ns : List Int) : Prop := ∃ a, v = .ref a ∧ H a = some (.tup (ns.map V.int))
theorem Tn.ts {H H' : Hp} {v : V} {ns : List Int} (x : Tn H v ns) (t : TS H H') : Tn H' v ns := by
  obtain ⟨a, e, h⟩ := x
  exact ⟨a, e, t _ _ h⟩
abbrev RowsAt (H : Hp) (vs : List V) (rs : List (List Int)) : Prop := Paired (Tn H) vs rs
theorem RowsAt.ts {H H' : Hp} {vs : List V} {rs : List (List Int)} (x : RowsAt H vs rs) (t : TS H H') : RowsAt H' vs rs := Paired.mapP x fun _ _ h => h.ts t
theorem Paired.get1 {α β : Type} {F : α → β → Prop} : ∀ {xs : List α} {ys : List β} {i : Nat} {x : α}, Paired F xs ys → xs[i]? = some x → ∃ y, ys[i]? = some y ∧ F x y
  | _, _, _, _, .nil, h => by cases h
  | _, _, 0, _, .cons f _, h => ⟨_, rfl, by cases h; exact f⟩
  | _, _, i + 1, _, .cons _ r, h => Paired.get1 (i := i) r h
theorem Paired.len {α β : Type} {F : α → β → Prop} : ∀ {xs : List α} {ys : List β}, Paired F xs ys → xs.length = ys.length
  | _, _, .nil => rfl
  | _, _, .cons _ r => by rw [List.length_cons, List.length_cons, Paired.len r]
/-- a system (count, bounds, pulls) -/
def SysAt (H : Hp) (v : V) (n : Nat) (bs ps : List (List Int)) : Prop := ∃ (a p q : Addr) (vb vp : List V), v = .ref a ∧ H a = some (.tup [.int n, .ref p, .ref q]) ∧ H p = some (.tup vb) ∧ RowsAt H vb bs ∧ H q = some (.tup vp) ∧ RowsAt H vp ps
theorem SysAt.ts {H H' : Hp} {v : V} {n : Nat} {bs ps : List (List Int)} (x : SysAt H v n bs ps) (t : TS H H') : SysAt H' v n bs ps := by
  obtain ⟨a, p, q, vb, vp, e, ha, hp, rb, hq, rp⟩ := x
  exact ⟨a, p, q, vb, vp, e, t _ _ ha, t _ _ hp, rb.ts t, t _ _ hq, rp.ts t⟩
def OkB (n : Nat) (bs : List (List Int)) : Prop := ∀ r ∈ bs, ∃ s e g : Int, r = [s, e, g] ∧ 0 ≤ s ∧ s < n ∧ 0 ≤ e ∧ e < n ∧ s ≠ e ∧ -1000000000 ≤ g ∧ g ≤ 1000000000
def OkP (n : Nat) (ps : List (List Int)) : Prop := ∀ r ∈ ps, ∃ s e g w : Int, r = [s, e, g, w] ∧ 0 ≤ s ∧ s < n ∧ 0 ≤ e ∧ e < n ∧ s ≠ e ∧ -1000000000 ≤ g ∧ g ≤ 1000000000 ∧ 0 ≤ w ∧ w ≤ 99
/-- the same, not seen by the walk -/
def OffG (b : Addr) (H H' : Hp) : Prop := Off b H H'
def spWhole : Sp := fun vs H Q _ => ∃ i : Int, vs = [.int i] ∧ Q (.bl true) H
def spGap : Sp := fun vs H Q _ => ∃ (b c : Addr) (cs : List Int), vs = [.ref b] ∧ BagAt b c cs H ∧ ∀ H' (g : Int), Off b H H' → BagAt b c cs H' → -1000000 ≤ g → g ≤ 1000000 → Q (.int g) H'
def spEnds : Sp := fun vs H Q _ => ∃ (b c : Addr) (cs : List Int) (n : Nat), vs = [.ref b, .int n] ∧ 2 ≤ n ∧ n ≤ 10000 ∧ BagAt b c cs H ∧ ∀ H' a (s e : Int), Off b H H' → BagAt b c cs H' → H' a = some (.tup [.int s, .int e]) → 0 ≤ s → s < n → 0 ≤ e → e < n → s ≠ e → Q (.ref a) H'
/-- all is kept but what stands at b and at l -/
def Off2 (b l : Addr) (H H' : Hp) : Prop := ∀ a o, a ≠ b → a ≠ l → H a = some o → H' a = some o
theorem Off2.of_off {b l : Addr} {H H' : Hp} (x : Off b H H') : Off2 b l H H' := fun a o n _ e => x a o n e
theorem Off2.mut {b l : Addr} {H H1 : Hp} {o : HO} (x : Off2 b l H H1) : Off2 b l H (upd H1 l o) := fun a u n n2 e => (upd_ne n2).trans (x a u n n2 e)
theorem Off2.new {b l p : Addr} {H H1 : Hp} {o : HO} (x : Off2 b l H H1) (h : H1 p = none) : Off2 b l H (upd H1 p o) := fun a u n n2 e => same_upd h _ _ (x a u n n2 e)
theorem Off2.off {b l : Addr} {H H1 H2 : Hp} (x : Off2 b l H1 H2) (f : Off b H H1) (h : H l = none) : Off b H H2 := fun a u n e => x a u n (ne_of_none e h) (f a u n e)
/-- its items as a tuple, or its items and one of them once more -/
def spDoubled : Sp := fun vs H Q _ => ∃ (b c : Addr) (cs : List Int) (l : Addr) (xs : List V), vs = [.ref b, .ref l] ∧ BagAt b c cs H ∧ H l = some (.lst xs) ∧ l ≠ b ∧ l ≠ c ∧ xs.length ≤ 10000 ∧
  ∀ H' a ys, Off2 b l H H' → BagAt b c cs H' → TS H H' → H' a = some (.tup ys) → (ys = xs ∨ ∃ (i : Nat) (y : V), xs[i]? = some y ∧ ys = xs ++ [y]) → Q (.ref a) H'
theorem RowsAt.dbl {H : Hp} {xs ys : List V} {rs : List (List Int)} (r : RowsAt H xs rs) (h : ys = xs ∨ ∃ (i : Nat) (y : V), xs[i]? = some y ∧ ys = xs ++ [y]) : ∃ rs', RowsAt H ys rs' ∧ (rs' = rs ∨ ∃ (i : Nat) (x : List Int), rs[i]? = some x ∧ rs' = rs ++ [x]) := by
  rcases h with rfl | ⟨i, y, e, rfl⟩
  · exact ⟨rs, r, .inl rfl⟩
  · obtain ⟨x, ex, f⟩ := Paired.get1 r e
    exact ⟨rs ++ [x], r.snoc f, .inr ⟨i, x, ex, rfl⟩⟩
def spSystem : Sp := fun vs H Q _ => ∃ (b c : Addr) (cs : List Int) (m : Nat), vs = [.ref b, .int m] ∧ m ≤ 1000 ∧ BagAt b c cs H ∧ ∀ H' v n bs ps, Off b H H' → BagAt b c cs H' → SysAt H' v n bs ps → OkB n bs → OkP n ps → n ≤ 1000 → bs.length ≤ 3000 → ps.length ≤ 3000 → Q v H'
theorem OkB.nil (n : Nat) : OkB n [] := fun _ h => nomatch h
theorem OkP.nil (n : Nat) : OkP n [] := fun _ h => nomatch h
theorem OkB.snoc {n : Nat} {bs : List (List Int)} {i : Nat} {r : List Int} (h : OkB n bs) (e : bs[i]? = some r) : OkB n (bs ++ [r]) := fun x hx => by
  rcases List.mem_append.mp hx with hx | hx
  · exact h x hx
  · rw [List.mem_singleton.mp hx]; exact h r (List.mem_of_getElem? e)
theorem OkB.dbl {n : Nat} {bs bs' : List (List Int)} (h : OkB n bs) (e : bs' = bs ∨ ∃ (i : Nat) (x : List Int), bs[i]? = some x ∧ bs' = bs ++ [x]) : OkB n bs' ∧ bs'.length ≤ bs.length + 1 := by
  rcases e with rfl | ⟨i, x, ex, rfl⟩
  · exact ⟨h, by omega⟩
  · exact ⟨h.snoc ex, by simp⟩
theorem OkP.snoc {n : Nat} {bs : List (List Int)} {i : Nat} {r : List Int} (h : OkP n bs) (e : bs[i]? = some r) : OkP n (bs ++ [r]) := fun x hx => by
  rcases List.mem_append.mp hx with hx | hx
  · exact h x hx
  · rw [List.mem_singleton.mp hx]; exact h r (List.mem_of_getElem? e)
theorem OkP.dbl {n : Nat} {bs bs' : List (List Int)} (h : OkP n bs) (e : bs' = bs ∨ ∃ (i : Nat) (x : List Int), bs[i]? = some x ∧ bs' = bs ++ [x]) : OkP n bs' ∧ bs'.length ≤ bs.length + 1 := by
  rcases e with rfl | ⟨i, x, ex, rfl⟩
  · exact ⟨h, by omega⟩
  · exact ⟨h.snoc ex, by simp⟩
section
variable {X : Cx} (K : PySem.W.Frag)
def rListD : List V → Hp → VK → Prop := fun xs H Q => ∃ p ys, xs = [.ref p] ∧ (SqL K H p ys ∨ SqT K H p ys) ∧ ∀ l, H l = none → Q (.ref l) (upd H l (.lst ys))
def rTupleD : List V → Hp → VK → Prop := fun xs H Q => ∃ p ys, xs = [.ref p] ∧ ((SqL K H p ys ∧ ∀ l, H l = none → Q (.ref l) (upd H l (.tup ys))) ∨ (SqT K H p ys ∧ Q (.ref p) H))
theorem dList (hK : X.K = K := by rfl) : CallR X (.type "list") (rListD K) := by subst hK; exact call_list_of
theorem dTuple (hK : X.K = K := by rfl) : CallR X (.type "tuple") (rTupleD K) := by subst hK; exact call_tuple_of
variable {K} {Q : VK} {H : Hp} {te : TE} {σ : L2.St}
theorem rv_listL {p : Addr} {ys : List V} (h : SqL K H p ys) (q : ∀ l, H l = none → Q (.ref l) (upd H l (.lst ys))) : rListD K [.ref p] H Q := ⟨p, ys, rfl, .inl h, q⟩
theorem rv_listT {p : Addr} {ys : List V} (h : SqT K H p ys) (q : ∀ l, H l = none → Q (.ref l) (upd H l (.lst ys))) : rListD K [.ref p] H Q := ⟨p, ys, rfl, .inr h, q⟩
theorem rv_tupL {p : Addr} {ys : List V} (h : SqL K H p ys) (q : ∀ l, H l = none → Q (.ref l) (upd H l (.tup ys))) : rTupleD K [.ref p] H Q := ⟨p, ys, rfl, .inl ⟨h, q⟩⟩
theorem rv_tupT {p : Addr} {ys : List V} (h : SqT K H p ys) (q : Q (.ref p) H) : rTupleD K [.ref p] H Q := ⟨p, ys, rfl, .inr ⟨h, q⟩⟩
theorem rd_iTup {R : It → Hp → Prop} (q : te σ H fun x H1 => ∃ a, x = .ref a ∧ (∃ xs, SqT K H1 a xs) ∧ R (Itt K a) H1) : iTup K te σ H R := q
theorem rv_iT {a : Addr} {xs : List V} {R : Addr → Prop} (h : SqT K H a xs) (q : R a) : ∃ a', V.ref a = .ref a' ∧ (∃ xs, SqT K H a' xs) ∧ R a' := ⟨a, rfl, ⟨xs, h⟩, q⟩
end
end D0
namespace D0
open PySem PySem.Spec PyProof.Rows L2
section
variable {K : PySem.W.Frag} {σ : L2.St} {H : Hp} {Q : VK} {te tl : TE} {ta : TA} {vs : List Nat} {j : Nat} {g : TG} {tt : TT}
theorem Tn.same {H H' : Hp} {v : V} {ns : List Int} (x : Tn H v ns) (t : Same H H') : Tn H' v ns := x.ts (.of_same t)
/-- a comprehension over a tuple of rows -/
theorem lc_rows {a : Addr} {xs : List V} {rs : List (List Int)} (f : V → List Int → V) (kp : List Int → Bool) (hl : ∀ Qe : VK, Qe (.ref a) H → tl σ H Qe) (hs : H a = some (.tup xs)) (hr : RowsAt H xs rs) (hz : xs.length ≤ 100000)
    (he : ∀ (x : V) (r : List Int) (H' : Hp) (Nx : VK) (E : Hp → Prop), r ∈ rs → Same H H' → Tn H' x r → (kp r = true → ∀ H'', Same H' H'' → Nx (f x r) H'') → (kp r = false → ∀ H'', Same H' H'' → E H'') →
      g x (wipe σ vs) H' fun σ2 H2 => wipe σ2 vs = wipe σ vs ∧ tt σ2 H2 fun b H3 => if b = true then te σ2 H3 Nx else E H3)
    (q : ∀ D H', H D = none → Same H H' → H' D = some (.lst (((xs.zip rs).filter fun p => kp p.2).map fun p => f p.1 p.2)) → Q (.ref D) H') : tLc (iTup K tl) g tt te vs σ H Q := by
  have hln := Paired.len hr
  refine hl _ ⟨a, rfl, ⟨_, SqT.of hs⟩, fun D hD => ?_⟩
  refine lc_tup (K := K) (a := a) (xs := xs) (fun i H' => Same H H' ∧ H' D = some (.lst ((((xs.zip rs).take i).filter fun p => kp p.2).map fun p => f p.1 p.2))) ⟨same_upd hD, upd_same⟩ (fun i H' _ h => SqT.of (h.1 _ _ hs)) ?_ ?_
  · rintro i x H' hx ⟨s, e⟩
    obtain ⟨r, er, hxr⟩ := Paired.get1 hr hx
    have ez : (xs.zip rs)[i]? = some (x, r) := by rw [List.getElem?_zip_eq_some]; exact ⟨hx, er⟩
    refine he x r H' _ _ (List.mem_of_getElem? er) s (hxr.same s) (fun hk H'' s2 => ?_) (fun hk H'' s2 => ?_)
    · refine ⟨_, s2 _ _ e, ?_, ?_, ?_⟩
      · have h1 := List.length_filter_le (fun p : V × List Int => kp p.2) ((xs.zip rs).take i)
        rw [List.length_map]
        have h2 : ((xs.zip rs).take i).length ≤ xs.length := by rw [List.length_take, List.length_zip]; omega
        exact sz4' (by
          have : i < xs.length := (List.getElem?_eq_some_iff.mp hx).1
          have : ((xs.zip rs).take i).length ≤ i := by rw [List.length_take]; omega
          omega)
      · intro b o eb
        rw [upd_ne (ne_of_none eb hD)]
        exact s2 _ _ (s _ _ eb)
      · rw [upd_same, List.take_add_one, ez, List.filter_append, List.map_append]
        simp [hk]
    · refine ⟨s.trans s2, ?_⟩
      rw [List.take_add_one, ez, List.filter_append, List.map_append]
      simp [hk, s2 _ _ e]
  · rintro H' ⟨s, e⟩
    rw [List.take_of_length_le (by rw [List.length_zip]; omega)] at e
    exact q D H' hD s e
theorem zsnd {α β γ : Type} (f : β → γ) : ∀ (xs : List α) (ys : List β), xs.length = ys.length → (xs.zip ys).map (fun p => f p.2) = ys.map f
  | [], [], _ => rfl
  | _ :: xs, _ :: ys, h => by
    rw [List.zip_cons_cons, List.map_cons, List.map_cons, zsnd f xs ys (Nat.succ.inj h)]
theorem zflen {α β : Type} (kp : β → Bool) : ∀ (xs : List α) (ys : List β), xs.length = ys.length → ((xs.zip ys).filter fun p => kp p.2).length = (ys.filter kp).length
  | [], [], _ => rfl
  | _ :: xs, y :: ys, h => by
    rw [List.zip_cons_cons, List.filter_cons, List.filter_cons]
    cases e : kp y <;> simp [zflen kp xs ys (Nat.succ.inj h)]
theorem ftrue {α : Type} (l : List α) : l.filter (fun _ => true) = l := List.filter_eq_self.mpr fun _ _ => rfl
def hat (hs : List Int) (i : Int) : Int := hs.getD i.toNat 0
def kb (hs r : List Int) : Bool := decide (r.getD 2 0 ≤ hat hs (r.getD 1 0) - hat hs (r.getD 0 0))
def ct (hs r : List Int) : Int := r.getD 3 0 * (if hat hs (r.getD 1 0) - hat hs (r.getD 0 0) - r.getD 2 0 < 0 then -(hat hs (r.getD 1 0) - hat hs (r.getD 0 0) - r.getD 2 0) else hat hs (r.getD 1 0) - hat hs (r.getD 0 0) - r.getD 2 0)
theorem rep_map (n : Nat) (k : Int) (h : k = (n : Int)) : (List.replicate k.toNat [V.int 0]).flatten = (List.replicate n (0 : Int)).map V.int := by
  subst h
  rw [Int.toNat_natCast]
  induction n with
  | zero => rfl
  | succ n ih => rw [List.replicate_succ, List.flatten_cons, ih, List.replicate_succ, List.map_cons]; rfl
def spKeeps : Sp := fun vs H Q _ => ∃ (v : V) (t : Addr) (n : Nat) (bs ps : List (List Int)) (hs : List Int), vs = [v, .ref t] ∧ SysAt H v n bs ps ∧ OkB n bs ∧ bs.length ≤ 4000 ∧ H t = some (.tup (hs.map V.int)) ∧ hs.length = n ∧ ∀ H', Same H H' → Q (.bl (bs.all (kb hs))) H'
def spCost : Sp := fun vs H Q _ => ∃ (v : V) (t : Addr) (n : Nat) (bs ps : List (List Int)) (hs : List Int), vs = [v, .ref t] ∧ SysAt H v n bs ps ∧ OkP n ps ∧ ps.length ≤ 4000 ∧ H t = some (.tup (hs.map V.int)) ∧ hs.length = n ∧ ∀ H', Same H H' → Q (.int (ps.map (ct hs)).sum) H'
def spBroken : Sp := fun vs H Q _ => ∃ (v : V) (t : Addr) (n : Nat) (bs ps : List (List Int)) (hs : List Int), vs = [v, .ref t] ∧ SysAt H v n bs ps ∧ OkB n bs ∧ bs.length ≤ 4000 ∧ H t = some (.lst (hs.map V.int)) ∧ hs.length = n ∧ ∀ H', Same H H' → Q (.int ((bs.filter fun r => !kb hs r).length : Int)) H'
def spSpent : Sp := fun vs H Q _ => ∃ (v : V) (t : Addr) (n : Nat) (bs ps : List (List Int)) (hs : List Int), vs = [v, .ref t] ∧ SysAt H v n bs ps ∧ OkP n ps ∧ ps.length ≤ 4000 ∧ H t = some (.lst (hs.map V.int)) ∧ hs.length = n ∧ Q (.int (ps.map (ct hs)).sum) H
def spClimbed : Sp := fun vs H Q _ => ∃ (v : V) (t : Addr) (n : Nat) (bs ps : List (List Int)) (hs : List Int), vs = [v, .ref t] ∧ SysAt H v n bs ps ∧ OkB n bs ∧ bs.length ≤ 4000 ∧ n ≤ 1000 ∧ H t = some (.lst (hs.map V.int)) ∧ hs.length = n ∧
  ∀ H' r, Same H H' → (r = .non ∨ ∃ (u : Addr) (hs' : List Int), r = .ref u ∧ H' u = some (.tup (hs'.map V.int)) ∧ hs'.length = n) → Q r H'
def spSigned : Sp := fun vs H Q _ => ∃ (b c : Addr) (cs : List Int) (m : Int), vs = [.ref b, .int m] ∧ 0 < m ∧ m < 2 ^ 1000 ∧ BagAt b c cs H ∧ ∀ H' (r : Int), Off b H H' → BagAt b c cs H' → Q (.int r) H'
def spTall : Sp := fun vs H Q _ => ∃ (b c : Addr) (cs : List Int) (v : V) (n : Nat) (bs ps : List (List Int)), vs = [.ref b, v] ∧ SysAt H v n bs ps ∧ OkB n bs ∧ bs.length ≤ 4000 ∧ n ≤ 1000 ∧ BagAt b c cs H ∧ ∀ H' l (hs : List Int), Off b H H' → BagAt b c cs H' → H' l = some (.lst (hs.map V.int)) → hs.length = n → l ≠ b → Q (.ref l) H'
def spBeside : Sp := fun vs H Q _ => ∃ (b c : Addr) (cs : List Int) (t : Addr) (hs : List Int), vs = [.ref b, .ref t] ∧ H t = some (.lst (hs.map V.int)) ∧ t ≠ b ∧ hs.length ≤ 1000 ∧ BagAt b c cs H ∧ ∀ H' l (hs' : List Int), Off b H H' → BagAt b c cs H' → H' l = some (.lst (hs'.map V.int)) → hs'.length = hs.length → l ≠ b → Q (.ref l) H'
theorem at_hat {hs : List Int} {n : Nat} {i : Int} (hl : hs.length = n) (h0 : 0 ≤ i) (h1 : i < n) : atI (hs.map V.int) i = some (.int (hat hs i)) := at_ints h0 (by rw [List.length_map, hl]; exact h1)
theorem setm_int (hs : List Int) (j : Nat) (x : Int) : (hs.map V.int).set j (.int x) = (hs.set j x).map V.int := by rw [List.map_set]
theorem ints_of : ∀ {ys : List V}, (∀ y ∈ ys, ∃ i : Int, y = .int i) → ∃ hs : List Int, ys = hs.map V.int
  | [], _ => ⟨[], rfl⟩
  | y :: r, h => by
    obtain ⟨hs, rfl⟩ := ints_of fun y hy => h y (List.mem_cons_of_mem _ hy)
    obtain ⟨i, rfl⟩ := h y (List.mem_cons_self ..)
    exact ⟨i :: hs, rfl⟩
def rIsN : R2 := fun x y H Q => y = .non ∧ Q (.bl (decide (x = .non))) H
def rNotN : R2 := fun x y H Q => y = .non ∧ Q (.bl (!decide (x = .non))) H
theorem dIsN {X : Cx} : OpR X (compareOp .Is) rIsN := op_isN
theorem dNotN {X : Cx} : OpR X (compareOp .IsNot) rNotN := op_notN
theorem rv_isNn (q : Q (.bl true) H) : rIsN .non .non H Q := ⟨rfl, q⟩
theorem rv_isNr {a : Addr} (q : Q (.bl false) H) : rIsN (.ref a) .non H Q := ⟨rfl, q⟩
theorem rv_isNi {a : Int} (q : Q (.bl false) H) : rIsN (.int a) .non H Q := ⟨rfl, q⟩
theorem rv_notNn (q : Q (.bl false) H) : rNotN .non .non H Q := ⟨rfl, q⟩
theorem rv_notNr {a : Addr} (q : Q (.bl true) H) : rNotN (.ref a) .non H Q := ⟨rfl, q⟩
theorem rv_notNi {a : Int} (q : Q (.bl true) H) : rNotN (.int a) .non H Q := ⟨rfl, q⟩
end
end D0
namespace D0
open PySem PySem.Spec PyProof.Rows L2
def scalV : V → Bool
  | .non => true
  | .bl _ => true
  | .int _ => true
  | .str _ => true
  | _ => false
/-- two values that hold the same data, nested at most n deep -/
def SameV (H : Hp) : Nat → V → V → Prop
  | 0, x, y => x = y ∧ scalV x = true
  | n + 1, x, y => (x = y ∧ scalV x = true) ∨ ∃ (a b : Addr) (xs ys : List V), x = .ref a ∧ y = .ref b ∧ xs.length ≤ 100000 ∧ ((H a = some (.tup xs) ∧ H b = some (.tup ys)) ∨ (H a = some (.lst xs) ∧ H b = some (.lst ys))) ∧ Paired (SameV H n) xs ys
theorem SameV.same {H H' : Hp} (s : Same H H') : ∀ (n : Nat) (x y : V), SameV H n x y → SameV H' n x y
  | 0, _, _, h => h
  | n + 1, x, y, h => by
    rcases h with h | ⟨a, b, xs, ys, e1, e2, l, h, p⟩
    · exact .inl h
    · refine .inr ⟨a, b, xs, ys, e1, e2, l, ?_, Paired.mapP p fun u v => SameV.same s n u v⟩
      rcases h with ⟨h1, h2⟩ | ⟨h1, h2⟩
      · exact .inl ⟨s _ _ h1, s _ _ h2⟩
      · exact .inr ⟨s _ _ h1, s _ _ h2⟩
def spSame (n : Nat) : Sp := fun vs H Q _ => ∃ x y : V, vs = [x, y] ∧ SameV H n x y ∧ ∀ H', Same H H' → Q (.bl true) H'
def spShuffle (K : PySem.W.Frag) : Sp := fun vs H Q _ => ∃ (b c : Addr) (cs : List Int) (t : Addr) (xs : List V), vs = [.ref b, .ref t] ∧ (SqL K H t xs ∨ SqT K H t xs) ∧ t ≠ b ∧ xs.length ≤ 1000 ∧ BagAt b c cs H ∧ ∀ H' l ys, Off b H H' → BagAt b c cs H' → H' l = some (.lst ys) → l ≠ b → l ≠ c → H l = none → ys.Perm xs → Q (.ref l) H'
section
variable {K : PySem.W.Frag} {Q : VK} {H : Hp}
theorem rv_isNb {b : Bool} (q : Q (.bl false) H) : rIsN (.bl b) .non H Q := ⟨rfl, q⟩
theorem rv_isNs {b : Str} (q : Q (.bl false) H) : rIsN (.str b) .non H Q := ⟨rfl, q⟩
end
end D0
namespace ET
open PySem AutoSeq1
theorem newE (tu : Addr) (xs : Array Value) (k : Nat) (dd : Option Addr) (ss : Array (Option Value)) :
    Meets (Builtin.«enumerate.__new__» ⟨[.type "enumerate", .ref tu], []⟩) (fun _ R z => z.heap.get? tu = some { cls := .type "tuple", dict := dd, data := .seq xs k, slots := ss } ∧
      R (.ok (.ret (.ref (z.heap.push { cls := .type "tuple_iterator", data := .fields #[.ref tu, .int 0 0] }).objs.size)))
        { z with heap := (z.heap.push { cls := .type "tuple_iterator", data := .fields #[.ref tu, .int 0 0] }).push { cls := .type "enumerate", data := .fields #[.none, .bool false, .ref z.heap.objs.size, rawInt 0, .none, .none] } }) :=
  .of_wp fun prog w A R z h => by
    obtain ⟨hp, gg, dr, tk, os⟩ := z; obtain ⟨ht, h⟩ := h
    have hsb := sub_enumerate
    have hT : Heap.IsTuple (Shared.heap ⟨hp, gg, dr, tk, os⟩) tu xs := ⟨_, ht, rfl, k, rfl⟩
    wp_walk using wpAny_loadPart' ht
    refine wpAny_stack_any fun _ => wpAny_pure ?_
    split
    · rename_i c _ _ _ _ _
      cases (c == Value.type "enumerate")
      · wp_walk using wpAny_loadPart' ht, wpAny_pyIter_tuple hT; exact ⟨_, rfl, h⟩
      · wp_walk using wpAny_loadPart' ht, wpAny_pyIter_tuple hT; exact ⟨_, rfl, h⟩
    · wp_walk using wpAny_loadPart' ht, wpAny_pyIter_tuple hT; exact ⟨_, rfl, h⟩
section
variable {prog : Program} {w : World} {A : Around} {E : Value → Shared → Prop} {z : Shared}
theorem callE {tu : Addr} {xs : Array Value} {Q : Value → Shared → Prop} (hT : z.heap.IsTuple tu xs)
    (h : ∀ g, IsEnum g (z.heap.objs.size + 1) z.heap.objs.size 0 .none → g.IsTupleIter z.heap.objs.size tu 0 → g.objs.size = z.heap.objs.size + 2 →
      (∀ b o, z.heap.get? b = some o → g.get? b = some o) → Q (.ref (z.heap.objs.size + 1)) { z with heap := g }) :
    wpAny (model prog w) A (call (.type "enumerate") [.ref tu]) Q E z := by
  obtain ⟨⟨c, dd, dt, ss⟩, ht, hc, k, hd⟩ := hT
  replace hc : c = .type "tuple" := hc
  replace hd : dt = .seq xs k := hd
  subst hc hd
  refine callType_new F.called_enumerate (by decide) (F.typeCall_enumerate_1 _) (F.newCall_enumerate_1 _) (fun ob => F.args_object_init_2 ob _) F.entry_enumerate_new (newE tu xs k dd ss) ⟨ht, ?_⟩
  have hz : (z.heap.push { cls := .type "tuple_iterator", data := .fields #[.ref tu, .int 0 0] }).objs.size = z.heap.objs.size + 1 := Heap.size_push ..
  show _ ∧ _
  rw [hz]
  have en : IsEnum ((z.heap.push { cls := .type "tuple_iterator", data := .fields #[.ref tu, .int 0 0] }).push
      { cls := .type "enumerate", data := .fields #[.none, .bool false, .ref z.heap.objs.size, rawInt 0, .none, .none] }) (z.heap.objs.size + 1) z.heap.objs.size 0 .none := by
    have y := Heap.get?_push_size (z.heap.push { cls := .type "tuple_iterator", data := .fields #[.ref tu, .int 0 0] }) (o := { cls := .type "enumerate", data := .fields #[.none, .bool false, .ref z.heap.objs.size, rawInt 0, .none, .none] }) rfl
    rw [hz] at y; exact y
  exact ⟨⟨_, en, rfl⟩, h _ en ⟨_, Heap.get?_push_of_some _ (Heap.get?_push_size _ rfl), rfl, rfl⟩ (by rw [Heap.size_push, hz]) fun b o y => Heap.get?_push_of_some _ (Heap.get?_push_of_some _ y)⟩
theorem nextT {zi tu : Addr} {i : Nat} {xs : Array Value} {x : Value} {Q : Value → Shared → Prop} (ti : z.heap.IsTupleIter zi tu i) (tt : z.heap.IsTuple tu xs) (hx : xs[i]? = some x)
    (hQ : ∀ g, g.IsTupleIter zi tu (i + 1) → Heap.SameBut zi z.heap g → Q x { z with heap := g }) : wpAny (model prog w) A (Builtin.SmallTypes.nextOf (.ref zi)) Q E z := by
  obtain ⟨oi, hoi, hci, hdi⟩ := id ti
  obtain ⟨ot, hot, _, nt, hdt⟩ := tt
  unfold Builtin.SmallTypes.nextOf
  refine wpAny_bind (wpAny_callSpecial?_slot (name := Str.ofString "__next__") ti.typeIs F.slot_tuple_iterator_next (wpAny_call_entry F.slot_tuple_iterator_next ti.typeIs F.entry_tuple_iterator_next ?_ (F.args_tuple_iterator_next_1 _)))
  show wpAny _ _ (field (.ref zi) 0 >>= _) _ _ z
  refine wpAny_bind (wpAny_field hoi hdi (x := .ref tu) rfl ?_)
  show wpAny _ _ (if (Value.ref tu == Value.none) = true then _ else _) _ _ z
  rw [if_neg (show ¬ ((Value.ref tu == Value.none) = true) from Bool.false_ne_true)]
  show wpAny _ _ (field (.ref zi) 1 >>= _) _ _ z
  refine wpAny_bind (wpAny_field hoi hdi (x := .int i 0) rfl ?_)
  show wpAny _ _ (seqItems? (.ref tu) >>= _) _ _ z
  refine wpAny_bind (wpAny_seqItems hot hdt ?_)
  simp only [Int.toNat_natCast, hx]
  refine wpAny_bind (wpAny_setField hoi hdi (by simp) (wpAny_pure ⟨x, rfl, wpAny_pure (hQ _ ?_ (Heap.SameBut.update ..))⟩))
  exact ⟨_, Heap.get?_update_self _ hoi (Obj.isFreed_of_fields (Obj.data_mapFields hdi _)), (Obj.cls_mapFields ..).trans hci, by rw [Obj.data_mapFields hdi]; simp [rawInt]⟩
theorem nextTE {zi tu : Addr} {i : Nat} {xs : Array Value} {Q : Value → Shared → Prop} (hh : A.handled = none) (ti : z.heap.IsTupleIter zi tu i) (tt : z.heap.IsTuple tu xs) (hx : xs[i]? = none)
    (hE : ∀ g x, Heap.ExtBut zi z.heap g → (∃ o, g.get? x = some o ∧ o.cls = .type "StopIteration") → E (.ref x) { z with heap := g }) : wpAny (model prog w) A (Builtin.SmallTypes.nextOf (.ref zi)) Q E z := by
  obtain ⟨oi, hoi, hci, hdi⟩ := id ti
  obtain ⟨ot, hot, _, nt, hdt⟩ := tt
  unfold Builtin.SmallTypes.nextOf
  refine wpAny_bind (wpAny_callSpecial?_slot (name := Str.ofString "__next__") ti.typeIs F.slot_tuple_iterator_next (wpAny_call_entry F.slot_tuple_iterator_next ti.typeIs F.entry_tuple_iterator_next ?_ (F.args_tuple_iterator_next_1 _)))
  show wpAny _ _ (field (.ref zi) 0 >>= _) _ _ z
  refine wpAny_bind (wpAny_field hoi hdi (x := .ref tu) rfl ?_)
  show wpAny _ _ (if (Value.ref tu == Value.none) = true then _ else _) _ _ z
  rw [if_neg (show ¬ ((Value.ref tu == Value.none) = true) from Bool.false_ne_true)]
  show wpAny _ _ (field (.ref zi) 1 >>= _) _ _ z
  refine wpAny_bind (wpAny_field hoi hdi (x := .int i 0) rfl ?_)
  show wpAny _ _ (seqItems? (.ref tu) >>= _) _ _ z
  refine wpAny_bind (wpAny_seqItems hot hdt ?_)
  simp only [Int.toNat_natCast, hx]
  refine wpAny_bind (wpAny_rule (wpAny_bind (wpAny_setField hoi hdi (by simp) ?_)))
  show wpAny _ _ (newExc (.type "StopIteration") [] >>= fun _ => _) _ _ _
  refine wpAny_bind ?_
  simp only [newExc, newTuple]
  refine wpAny_bind (wpAny_newObj_type ?_ (by size_fits)); refine wpAny_bind (m := firstArgMember _ _) (wpAny_of_eq (a := Value.none) (by first | rfl | (simp only [firstArgMember]; rfl)) ?_)
  refine wpAny_newObj_type ?_ (by size_fits); simp only [raiseNew]
  refine wpAny_bind (wpAny_handled ?_); first | rw [show A.in1.handled = none from hh] | rw [hh]
  refine wpAny_bind (wpAny_pure (wpAny_throw ?_)); exact hE _ _ (((Heap.SameBut.update ..).extBut.push _).push _) ⟨_, Heap.get?_push_size _ rfl, rfl⟩
end
theorem drawsT {prog : Program} {w : World} {A : Around} (hh : A.handled = none) (zi tu : Addr) (xs : Array Value) (hne : zi ≠ tu) :
    Draws prog w A.in1 zi [zi, tu] xs.size (fun i x => xs[i]? = some x) (fun i h => h.IsTupleIter zi tu i ∧ h.IsTuple tu xs) where
  live := fun i h st => let ⟨⟨o, ho, _⟩, _⟩ := st; ⟨o, ho⟩
  frame := fun i h h' st k => ⟨st.1.at fun o q => k zi (by simp) o q, by
    obtain ⟨o, ho, r⟩ := st.2
    exact ⟨o, k tu (by simp) o ho, r⟩⟩
  item := fun i z Q E hi st hQ => by
    obtain ⟨x, hx⟩ : ∃ x, xs[i]? = some x := ⟨xs[i], by simp [hi]⟩
    refine nextT st.1 st.2 hx fun g hg sb => ?_
    obtain ⟨o, ho, r⟩ := st.2
    exact hQ x g z.toks hx ⟨hg, ⟨o, (sb.2 tu (Ne.symm hne)).trans ho, r⟩⟩ sb
  done := fun z Q E st hE => nextTE hh st.1 st.2 (by simp) hE
end ET
namespace D0
open PySem PySem.Spec PyProof.Rows L2
/-- the tuple at a, each item in a new pair -/
def Itet (K : PySem.W.Frag) (a : Addr) : It :=
  ⟨fun i H => ∃ (xs : List V) (x : V), SqT K H a xs ∧ xs[i]? = some x, fun i H v H' => ∃ T x, v = .ref T ∧ H T = none ∧ H' = upd H T (.tup [.int (i : Nat), x]) ∧ ∀ xs, SqT K H a xs → xs[i]? = some x, fun i H => ∃ xs : List V, SqT K H a xs ∧ xs.length ≤ i⟩
theorem turn_enumT {P : Program} {w : World} {K : PySem.W.Frag} {elts : List Expr} {kk : Nat} {tpos : Pos} (a e zi : Addr) :
    Turn P w K (.Tuple elts kk tpos) (Itet K a) [e, zi] e (fun i h => (∃ old, IsEnum h e zi ((i : Nat) : Int) old) ∧ h.IsTupleIter zi a i ∧ e ≠ zi) where
  mem := by simp
  obj := fun i h st b hb => by
    obtain ⟨⟨old, en⟩, ⟨o, ho, hc, hd⟩, _⟩ := st
    rcases (show b = e ∨ b = zi by simpa using hb) with y | y
    · rw [y]; exact ⟨_, en, fun v q => nomatch q⟩
    · rw [y]; exact ⟨o, ho, fun v q => by rw [hd] at q; cases q⟩
  keep := fun i h h' st k => let ⟨⟨old, en⟩, hi, hn⟩ := st; ⟨⟨old, k e (by simp) _ en⟩, hi.at fun o q => k zi (by simp) o q, hn⟩
  item := by
    intro X hP hw hK hc i pins s σ H E I hf st hg
    subst hP hw hK
    obtain ⟨⟨old, en⟩, ti, hn⟩ := st
    obtain ⟨xs, x, hq, hx⟩ := hg
    obtain ⟨its, rv, p, hz⟩ := I.tuple hq
    have tt : s.heap.IsTuple a its.toArray := p
    obtain ⟨u, hu, ru⟩ := rv.get hx
    have hza : zi ≠ a := by
      rintro rfl
      obtain ⟨o, ho, c1, _⟩ := ti
      obtain ⟨o', ho', c2, _⟩ := tt
      rw [ho] at ho'; cases ho'
      rw [c1] at c2
      exact absurd c2 (by decide)
    have hea : e ≠ a := by
      rintro rfl
      obtain ⟨o', ho', c2, _⟩ := tt
      rw [en] at ho'; cases ho'
      exact absurd (show Value.type "enumerate" = Value.type "tuple" from c2) (by decide)
    have lt : i < its.toArray.size := by
      have := (List.getElem?_eq_some_iff.mp hu).1
      simpa using this
    have hel : e < s.heap.objs.size := Heap.lt_size en
    have hil : zi < s.heap.objs.size := by obtain ⟨_, q, _⟩ := ti; exact Heap.lt_size q
    refine wpAny_pyNext_enum_itemD (ET.drawsT (I.ok.hd hc) zi a its.toArray hza) en ⟨ti, tt⟩ lt hn (by simp [hn, hea]) fun y h' tk hy ho st' hT hsz hk => ?_
    have ey : y = u := by
      have h1 : its[i]? = some y := by simpa using hy
      rw [hu] at h1; exact (Option.some.inj h1).symm
    subst ey
    refine ⟨_, rfl, wpAny_letOwnedTupleGo_enum (s := { s with heap := h', toks := tk + 1 }) ho fun h2 en2 sb => ?_⟩
    have hT2 : h2.get? s.heap.objs.size = some { cls := .type "tuple", data := .seq #[.int i tk, y] } := (sb.2 _ (Nat.ne_of_gt hel)).trans hT
    have new : ObjOk X.prog X.w (upd H s.heap.objs.size (.tup [.int (i : Nat), x])) h2 s.heap.objs.size (.tup [.int (i : Nat), x]) := ⟨by show 2 ≤ sizeLine; decide, [.int i tk, y], .cons ⟨_, rfl⟩ (.cons ru .nil), ⟨_, hT2, rfl, _, rfl⟩⟩
    have I1 : Inv X pins σ (upd H s.heap.objs.size (.tup [.int (i : Nat), x])) { s with heap := h2, toks := tk + 1 } :=
      I.turnedNew (ch := [e, zi]) (fun b ob hb q => (sb.2 b (fun y => hb (by simp [y]))).trans (hk b ob (fun y => hb (by simp [y])) (fun y => hb (by simp [y])) q)) hf (Nat.le_refl _) new
    refine ⟨.ref s.heap.objs.size, _, I1, rfl, ⟨_, x, rfl, I.hok.fresh (Nat.le_refl _), rfl, fun ys hy => by rw [I.tuple_inj hy hq]; exact hx⟩, ⟨⟨y, ?_⟩, st'.1.at fun o q => (sb.2 zi (Ne.symm hn)).trans q, hn⟩, fun b hb => ?_⟩
    · rw [show ((i + 1 : Nat) : Int) = (i : Int) + 1 by omega]; exact en2
    · have lb : b < s.heap.objs.size := by
        rcases (show b = e ∨ b = zi by simpa using hb) with y | y
        · rw [y]; exact hel
        · rw [y]; exact hil
      rw [upd_ne (Nat.ne_of_lt lb)]
      exact (hf b hb).1
  done := by
    intro X hP hw hK hc i pins s σ H E I hf st hg
    subst hP hw hK
    obtain ⟨⟨old, en⟩, ti, hn⟩ := st
    obtain ⟨xs, hq, hx⟩ := hg
    obtain ⟨its, rv, p, hz⟩ := I.tuple hq
    have tt : s.heap.IsTuple a its.toArray := p
    obtain ⟨f0, f1, f2, f3, f4, f5⟩ := hf zi (by simp)
    have hl := rv.length
    have hT : s.TypeIs (.ref e) "enumerate" := ⟨_, en, rfl⟩
    unfold pyNext
    refine wpAny_bind (wpAny_attempt (wpAny_callSpecial?_slot (name := Str.ofString "__next__") hT F.slot_enumerate_next (wpAny_call_entry F.slot_enumerate_next hT F.entry_enumerate_next ?_ (F.args_enumerate_next_1 _))))
    show wpAny _ _ (field (.ref e) 2 >>= fun _ => _) _ _ _
    refine wpAny_bind (wpAny_field en rfl (x := .ref zi) rfl ?_)
    refine wpAny_bind (ET.nextTE (A := X.A.in1) (I.ok.hd hc) ti tt (by simp; omega) fun h' x eb hx' => ?_)
    obtain ⟨o, ho, hco⟩ := hx'
    refine wpAny_bind (wpAny_isInstance (T := "StopIteration") (b := true) ⟨o, ho, hco⟩ isSubtype_stop ?_)
    exact wpAny_pure ⟨rfl, I.turned (t' := s.toks) (fun b o hb q => eb b o hb q) f0 f1 f3 f4 f5⟩
  self := fun A i s Q E st h => let ⟨⟨_, en⟩, _⟩ := st; wpAny_pyIter_enum en h
def iEnumT (K : PySem.W.Frag) (ta : TA) : TI := fun σ H R => ta σ H fun vs H1 => ∃ a xs, vs = [.ref a] ∧ SqT K H1 a xs ∧ R (Itet K a) H1
theorem dpi_enumT {X : Cx} (K : PySem.W.Frag) {e : Expr} {ta : TA} {p pos tpos : Pos} {elts : List Expr} {kk : Nat} (hg : Gl X "enumerate") (hm : X.mg "enumerate" = none) (ha : PA X [e] ta) (hK : X.K = K := by rfl) (hs : starEach [e] X.env = [(false, eval e X.env)] := by rfl) :
    PI X (.Tuple elts kk tpos) (.Call (.Name "enumerate" p) [e] [] pos) (iEnumT K ta) := by
  subst hK
  refine ⟨fun pins s σ H R I h => ?_⟩
  refine Call_ (ld_blt I hg hm boot_enumerate (PyProof.Rows.callWith_type1 (thn (ha.run pos pins s σ H _ I h) fun us s1 ⟨vs, H1, I1, r1, q1⟩ => ?_) hs rfl))
  obtain ⟨a, xs, ex, hq, q⟩ := q1
  subst ex
  cases r1 with
  | cons r rr =>
    cases rr
    cases r
    obtain ⟨its, rv, p', hz⟩ := I1.tuple hq
    refine ET.callE (show s1.heap.IsTuple a its.toArray from p') fun h' en hit hsz hk => wpAny_pyIter_enum en ?_
    have I2 : Inv X pins σ H1 { s1 with heap := h' } := I1.kept (t' := s1.toks) hk
    refine ⟨s1.heap.objs.size + 1, [s1.heap.objs.size + 1, s1.heap.objs.size], _, _, H1, rfl, I2, turn_enumT a (s1.heap.objs.size + 1) s1.heap.objs.size, ⟨⟨.none, en⟩, hit, Nat.succ_ne_self _⟩, fun b hb => ?_, q⟩
    have lb : s1.heap.objs.size ≤ b := by
      rcases (show b = s1.heap.objs.size + 1 ∨ b = s1.heap.objs.size by simpa using hb) with y | y
      · rw [y]; exact Nat.le_add_right _ _
      · rw [y]; exact Nat.le_refl _
    exact I1.fpOk lb (I1.hok.fresh lb)
end D0
namespace D0
open PySem PySem.Spec PyProof.Rows L2
theorem sqt_set {K : PySem.W.Frag} {H : Hp} {b c : Addr} {o : HO} {xs : List V} (n : c ≠ b) (e : SqT K H c xs) : SqT K (upd H b o) c xs := (Off.refl b H).set.seqT n e
theorem sqt_new {K : PySem.W.Frag} {H : Hp} {p c : Addr} {o : HO} {xs : List V} (n : H p = none) (e : SqT K H c xs) : SqT K (upd H p o) c xs := by
  rcases e with (e | ⟨u, e⟩) | e
  · exact .inl (.inl (same_upd n _ _ e))
  · exact .inl (.inr ⟨u, same_upd n _ _ e⟩)
  · exact .inr e
theorem rv_pop {l : Addr} {xs : List V} {i : Int} {k : Nat} {y : V} {H : Hp} {Q : VK} (h : H l = some (.lst xs)) (h0 : 0 ≤ i) (h1 : i < (xs.length : Int)) (h2 : xs.length ≤ 100000) (hk : k = i.toNat) (hy : xs[k]? = some y) (q : Q y (upd H l (.lst (xs.eraseIdx k)))) : rPopAt (.ref l) [.int i] H Q :=
  ⟨l, xs, i, k, y, rfl, rfl, h, by omega, by omega, by rw [hk]; exact seqIndex_of h0 h1, hy, q⟩
theorem erase_perm : ∀ (l : List V) (k : Nat) (y : V), l[k]? = some y → (y :: l.eraseIdx k).Perm l
  | [], _, _, h => by simp at h
  | x :: r, 0, y, h => by
    have e : x = y := by simpa using h
    subst e
    exact List.Perm.refl _
  | x :: r, k + 1, y, h => by
    have ih := erase_perm r k y (by simpa using h)
    rw [List.eraseIdx_cons_succ]
    exact (List.Perm.swap x y _).trans (ih.cons x)
theorem perm_take {ms rs : List V} {xs : List V} {k : Nat} {y : V} (p : (ms ++ rs).Perm xs) (hy : rs[k]? = some y) : (ms ++ [y] ++ rs.eraseIdx k).Perm xs := by
  refine List.Perm.trans ?_ p
  rw [List.append_assoc]
  exact List.Perm.append_left ms (erase_perm rs k y hy)
end D0
namespace D0
open PySem PySem.Spec PyProof.Rows L2
def rGetL (K : PySem.W.Frag) : V → V → Hp → VK → Prop := fun x y H Q => ∃ p xs i v, x = .ref p ∧ y = .int i ∧ SqL K H p xs ∧ 0 ≤ i ∧ atI xs i = some v ∧ Q v H
theorem dGetL {X : Cx} (K : PySem.W.Frag) (hK : X.K = K := by rfl) : PGet X (rGetL K) := by
  subst hK
  intro pins s σ H o i ov iv Q I ro ri h
  obtain ⟨p, xs, k, v, rfl, rfl, hq, h0, he, q⟩ := h
  cases ro
  obtain ⟨t, rfl⟩ := ri
  obtain ⟨its, r, pl, hz⟩ := I.list hq
  obtain ⟨j, h1, h2, h3, h4, h5⟩ := atI_get he
  obtain ⟨w, ew, rw'⟩ := r.get h2
  have hn := line63
  have hj : k.toNat = j := by
    rw [seqIndex_of h0 h5] at h1
    exact Option.some.inj h1
  exact wpAny_getItem_list pl.isList h0 (by omega) (by rw [hj]; simpa using ew) ⟨v, H, I, rw', q⟩
section
variable {K : PySem.W.Frag} {σ : L2.St} {H : Hp} {Q : VK} {D : Ends} {to ti te : TE} {ta : TA} {v : V}
theorem rd_augS {tget : V → V → Hp → VK → Prop} {tip : TIp} {tset : TSet} (q : to σ H fun o H1 => ti σ H1 fun i H2 => tget o i H2 fun x H3 => te σ H3 fun y H4 => tip x y H4 fun z H5 => tset o i z H5 fun H6 => D.nx σ H6) : tAugS to ti te tget tip tset D σ H := q
theorem rv_get {p : Addr} {xs : List V} {i : Int} (h : SqL K H p xs) (h0 : 0 ≤ i) (c : atI xs i = some v) (q : Q v H) : rGetL K (.ref p) (.int i) H Q := ⟨p, xs, i, v, rfl, rfl, h, h0, c, q⟩
theorem rv_ipI {f : Int → Int → Int} {i j : Int} (q : Q (.int (f i j)) H) : ipI f (.int i) (.int j) H Q := ⟨i, j, rfl, rfl, q⟩
end
theorem dpi_zipA {X : Cx} (K : PySem.W.Frag) {e e2 : Expr} {ta : TA} {p pos tpos : Pos} {elts : List Expr} {kk : Nat} (hg : Gl X "zip") (hm : X.mg "zip" = none) (ha : PA X [e, e2] ta) (hK : X.K = K := by rfl)
    (hs : starEach [e, e2] X.env = (false, eval e X.env) :: starEach [e2] X.env := by rfl) (hpl : (backTo pos (starEach [e2] X.env)).any (·.1) = false := by rfl) : PI X (.Tuple elts kk tpos) (.Call (.Name "zip" p) [e, e2] [] pos) (RZ.iZipA K ta) := by
  subst hK
  exact RZ.pi_zipA hg hm ha hs hpl
section
variable {K : PySem.W.Frag} {σ : L2.St} {H : Hp} {ta : TA}
theorem rd_zipA {R : It → Hp → Prop} (q : ta σ H fun vs H1 => ∃ a b xs ys, vs = [.ref a, .ref b] ∧ ((SqL K H1 a xs ∧ SqL K H1 b ys ∧ R (Itz K a b) H1) ∨ (SqT K H1 a xs ∧ SqT K H1 b ys ∧ R (RZ.ItzT K a b) H1))) : RZ.iZipA K ta σ H R := q
theorem rd_enumT {R : It → Hp → Prop} (q : ta σ H fun vs H1 => ∃ a xs, vs = [.ref a] ∧ SqT K H1 a xs ∧ R (Itet K a) H1) : iEnumT K ta σ H R := q
theorem rv_enumT {a : Addr} {xs : List V} {R : Addr → Prop} (h : SqT K H a xs) (q : R a) : ∃ a' xs', [V.ref a] = [.ref a'] ∧ SqT K H a' xs' ∧ R a' := ⟨a, xs, rfl, h, q⟩
end
def netAt : List (List Int) → List Int → Int → Int
  | r :: rs, f :: fs, x => netAt rs fs x + ((if r.getD 1 0 = x then f else 0) - (if r.getD 0 0 = x then f else 0))
  | _, _, _ => 0
theorem netAt_snoc : ∀ (rs : List (List Int)) (fs : List Int) (r : List Int) (f x : Int), rs.length = fs.length → netAt (rs ++ [r]) (fs ++ [f]) x = netAt rs fs x + ((if r.getD 1 0 = x then f else 0) - (if r.getD 0 0 = x then f else 0))
  | [], [], r, f, x, _ => by show (0 : Int) + _ = 0 + _; rfl
  | r' :: rs, f' :: fs, r, f, x, h => by
    show netAt (rs ++ [r]) (fs ++ [f]) x + _ = netAt rs fs x + _ + _
    rw [netAt_snoc rs fs r f x (Nat.succ.inj h)]
    omega
def netL (n : Nat) (rs : List (List Int)) (fs : List Int) : List Int := (List.range n).map fun x : Nat => netAt rs fs (x : Int)
theorem set_range (n : Nat) (g : Nat → Int) (k : Nat) (d : Int) (hk : k < n) : ((List.range n).map g).set k (g k + d) = (List.range n).map fun x => g x + (if k = x then d else 0) := by
  apply List.ext_getElem?
  intro i
  rw [List.getElem?_set, List.getElem?_map, List.getElem?_map, List.length_map, List.length_range]
  by_cases hi : i < n
  · rw [List.getElem?_range hi]
    by_cases e : k = i
    · subst e; simp [hk]
    · simp [e]
  · have e : (List.range n)[i]? = none := by simp; omega
    rw [e]
    by_cases q : k = i
    · omega
    · simp [q]
theorem netL_len (n : Nat) (rs : List (List Int)) (fs : List Int) : (netL n rs fs).length = n := by unfold netL; rw [List.length_map, List.length_range]
theorem netL_hat (n : Nat) (rs : List (List Int)) (fs : List Int) (k : Nat) (hk : k < n) : hat (netL n rs fs) (k : Int) = netAt rs fs (k : Int) := by
  unfold hat netL
  rw [Int.toNat_natCast, List.getD_eq_getElem?_getD, List.getElem?_map, List.getElem?_range hk]
  rfl
theorem hat_set (l : List Int) (j k : Nat) (d : Int) (hj : j < l.length) : hat (l.set j d) (k : Int) = if j = k then d else hat l (k : Int) := by
  unfold hat
  rw [Int.toNat_natCast, List.getD_eq_getElem?_getD, List.getD_eq_getElem?_getD, List.getElem?_set]
  by_cases e : j = k
  · rw [if_pos e, if_pos e, if_pos hj]; rfl
  · rw [if_neg e, if_neg e]
theorem hat_ext {l m : List Int} (hl : l.length = m.length) (h : ∀ k : Nat, k < l.length → hat l (k : Int) = hat m (k : Int)) : l = m := by
  apply List.ext_getElem hl
  intro k h1 h2
  have := h k h1
  unfold hat at this
  rw [Int.toNat_natCast, List.getD_eq_getElem?_getD, List.getD_eq_getElem?_getD, List.getElem?_eq_getElem h1, List.getElem?_eq_getElem h2] at this
  exact this
theorem net_step (n : Nat) (rs : List (List Int)) (fs : List Int) (r : List Int) (v : Int) (ks ke : Nat) (hl : rs.length = fs.length) (h0 : r.getD 0 0 = (ks : Int)) (h1 : r.getD 1 0 = (ke : Int)) (hs : ks < n) (he : ke < n) :
    ((netL n rs fs).set ks (hat (netL n rs fs) ks - v)).set ke (hat ((netL n rs fs).set ks (hat (netL n rs fs) ks - v)) ke + v) = netL n (rs ++ [r]) (fs ++ [v]) := by
  have ln := netL_len n rs fs
  apply hat_ext
  · rw [List.length_set, List.length_set, ln, netL_len]
  · intro k hk
    rw [List.length_set, List.length_set, ln] at hk
    rw [hat_set _ ke k _ (by rw [List.length_set, ln]; exact he), hat_set _ ks ke _ (by rw [ln]; exact hs), hat_set _ ks k _ (by rw [ln]; exact hs), netL_hat n rs fs ks hs, netL_hat n rs fs ke he, netL_hat n rs fs k hk, netL_hat n (rs ++ [r]) (fs ++ [v]) k hk, netAt_snoc rs fs r v k hl, h0, h1]
    by_cases a : ke = k
    · subst a
      by_cases c : ks = ke
      · subst c; simp
      · have c' : ¬ ((ks : Int) = (ke : Int)) := by omega
        simp [c, c']
    · have a' : ¬ ((ke : Int) = (k : Int)) := by omega
      by_cases c : ks = k
      · subst c; simp [a, a']; omega
      · have c' : ¬ ((ks : Int) = (k : Int)) := by omega
        simp [a, a', c, c']
theorem ixN_of {n : Nat} {k : Nat} (h : k < n) : ixN n (k : Int) = some k := by
  unfold ixN
  rw [if_pos (by omega), if_pos (by omega)]
  simp
end D0
namespace D0
open PySem PySem.Spec PyProof.Rows L2
section
variable {K : PySem.W.Frag} {σ : L2.St} {H : Hp} {Q : VK} {te : TE} {ta : TA} {vs : List Nat} {g : TG}
/-- [e for row, v in zip(rows, ints)] over two tuples -/
theorem lc_zipR {a b : Addr} {xs : List V} {rs : List (List Int)} {fs : List Int} (f : List Int → Int → V) (hl : ∀ Qe : List V → Hp → Prop, Qe [.ref a, .ref b] H → ta σ H Qe) (ha : H a = some (.tup xs)) (hr : RowsAt H xs rs) (hb : H b = some (.tup (fs.map V.int))) (hlen : fs.length = rs.length) (hz : xs.length ≤ 100000)
    (he : ∀ (x : V) (r : List Int) (v : Int) (T : Addr) (H' : Hp) (Nx : VK) (E : Hp → Prop), r ∈ rs → Same H H' → Tn H' x r → H' T = some (.tup [x, .int v]) → (∀ H'', Same H' H'' → Nx (f r v) H'') →
      g (.ref T) (wipe σ vs) H' fun σ2 H2 => wipe σ2 vs = wipe σ vs ∧ tYes σ2 H2 fun b H3 => if b = true then te σ2 H3 Nx else E H3)
    (q : ∀ D H', H D = none → Same H H' → H' D = some (.lst ((rs.zip fs).map fun p => f p.1 p.2)) → Q (.ref D) H') : tLc (RZ.iZipA K ta) g tYes te vs σ H Q := by
  have hln := Paired.len hr
  refine hl _ ⟨a, b, xs, fs.map V.int, rfl, .inr ⟨SqT.of ha, SqT.of hb, fun D hD => ?_⟩⟩
  refine ⟨fun i m H' => i + m = xs.length ∧ Same H H' ∧ H' D = some (.lst (((rs.zip fs).take i).map fun p => f p.1 p.2)), ⟨xs.length, by omega, same_upd hD, upd_same⟩, ?_⟩
  rintro i m H' ⟨em, s, e⟩
  by_cases hi : i < xs.length
  · have hx : xs[i]? = some xs[i] := List.getElem?_eq_getElem hi
    obtain ⟨r, er, hxr⟩ := Paired.get1 hr hx
    have hif : i < fs.length := by omega
    have ev : fs[i]? = some fs[i] := List.getElem?_eq_getElem hif
    have hy : (fs.map V.int)[i]? = some (.int fs[i]) := by rw [List.getElem?_map, ev]; rfl
    refine .inr ⟨⟨_, _, _, _, SqT.of (s _ _ ha), SqT.of (s _ _ hb), hx, hy⟩, fun H2 => Same H H2 ∧ H2 D = some (.lst (((rs.zip fs).take (i + 1)).map fun p => f p.1 p.2)), fun H2 h2 => ⟨m - 1, by omega, by omega, h2.1, h2.2⟩, ?_⟩
    rintro w H2 ⟨T, x, y, rfl, hT, rfl, gx, gy⟩
    have e1 : x = xs[i] := Option.some.inj ((gx _ (SqT.of (s _ _ ha))).symm.trans hx)
    have e2 : y = .int fs[i] := Option.some.inj ((gy _ (SqT.of (s _ _ hb))).symm.trans hy)
    subst e1 e2
    have s2 := s.trans (same_upd hT (o := .tup [xs[i], .int fs[i]]))
    refine he xs[i] r fs[i] T _ _ _ (List.mem_of_getElem? er) s2 (hxr.same s2) upd_same fun H'' s3 => ?_
    have e3 := s3 _ _ (same_upd hT _ _ e)
    refine ⟨_, e3, ?_, ?_, ?_⟩
    · rw [List.length_map]
      exact sz4' (by rw [List.length_take, List.length_zip]; omega)
    · intro b' o eb
      rw [upd_ne (ne_of_none eb hD)]
      exact s3 _ _ (s2 _ _ eb)
    · have ez : (rs.zip fs)[i]? = some (r, fs[i]) := by rw [List.getElem?_zip_eq_some]; exact ⟨er, ev⟩
      rw [upd_same, List.take_add_one, ez, List.map_append]
      rfl
  · refine .inl ⟨⟨xs, _, SqT.of (s _ _ ha), SqT.of (s _ _ hb), .inl (by omega)⟩, ?_⟩
    rw [List.take_of_length_le (by rw [List.length_zip]; omega)] at e
    exact q D H' hD s e
end
def wsum (rs : List (List Int)) (fs : List Int) : Int := ((rs.zip fs).map fun p => p.1.getD 2 0 * p.2).sum
end D0
namespace D0
open PySem PySem.Spec PyProof.Rows L2
theorem eqv_ints : ∀ l m : List Int, PyData.eqvAll (l.map PyData.int) (m.map PyData.int) = decide (l = m)
  | [], [] => rfl
  | [], _ :: _ => rfl
  | _ :: _, [] => rfl
  | x :: l, y :: m => by
    show (PyData.eqv (.int x) (.int y) && PyData.eqvAll (l.map PyData.int) (m.map PyData.int)) = _
    rw [eqv_ints l m, show PyData.eqv (.int x) (.int y) = (x == y) from rfl]
    by_cases h : x = y
    · subst h; simp
    · simp [h]
theorem dp_ints (K : PySem.W.Frag) (H : Hp) : ∀ l : List Int, DpAll K H (l.map V.int) (l.map PyData.int)
  | [] => .nil
  | x :: l => .cons (.int x) (dp_ints K H l)
section
variable {X : Cx} (K : PySem.W.Frag)
theorem dEqD (hu : X.A.units + 64 < cLine) (hK : X.K = K := by rfl) : OpR X (compareOp .Eq) (rEqD K) := by subst hK; exact op_eqD hu
end
section
variable {K : PySem.W.Frag} {σ : L2.St} {H : Hp} {Q : VK} {te tl : TE} {vs : List Nat} {j : Nat}
theorem lay_ints : ∀ l : List Int, PyData.canLayAll0 (l.map PyData.int) = true ∧ PyData.depthAll (l.map PyData.int) = 0
  | [] => ⟨rfl, rfl⟩
  | x :: l => ⟨(lay_ints l).1, by
    show max (PyData.depth (.int x)) (PyData.depthAll (l.map PyData.int)) = 0
    rw [(lay_ints l).2]; rfl⟩
theorem sh_ints (l : List Int) : SeqAt.shaped (.list (l.map PyData.int)) = true := by
  have h := lay_ints l
  have h1 : PyData.canLay0 (.list (l.map PyData.int)) = true := h.1
  have h2 : PyData.depth (.list (l.map PyData.int)) = 1 := by
    show PyData.depthAll (l.map PyData.int) + 1 = 1
    rw [h.2]
  unfold SeqAt.shaped
  rw [h1, h2]; rfl
theorem rv_eqLI {a b : Addr} {l m : List Int} (ha : SqL K H a (l.map V.int)) (hb : SqL K H b (m.map V.int)) (q : Q (.bl (decide (l = m))) H) : rEqD K (.ref a) (.ref b) H Q :=
  ⟨.list (l.map PyData.int), .list (m.map PyData.int), .lst ha (dp_ints K H l), .lst hb (dp_ints K H m), sh_ints l, sh_ints m, by
    show Q (.bl (PyData.eqvAll (l.map PyData.int) (m.map PyData.int))) H
    rw [eqv_ints]; exact q⟩
/-- [e for x in a tuple], e a value f x -/
theorem lc_tmap {a : Addr} {xs : List V} (f : V → V) (hl : ∀ Qe : VK, Qe (.ref a) H → tl σ H Qe) (hs : SqT K H a xs) (hz : xs.length ≤ 100000) (hw : ∀ x, wipe ((wipe σ vs).set j (some x)) vs = wipe σ vs)
    (he : ∀ (i : Nat) (x : V) (H' : Hp), xs[i]? = some x → Same H H' → ∀ Qe : VK, (∀ H'', Same H' H'' → Qe (f x) H'') → te ((wipe σ vs).set j (some x)) H' Qe)
    (q : ∀ D H', H D = none → Same H H' → H' D = some (.lst (xs.map f)) → Q (.ref D) H') : tLc (iTup K tl) (gName j) tYes te vs σ H Q := by
  have keep : ∀ H', Same H H' → SqT K H' a xs := fun H' s => by
    rcases hs with (e | ⟨u, e⟩) | e
    · exact .inl (.inl (s _ _ e))
    · exact .inl (.inr ⟨u, s _ _ e⟩)
    · exact .inr e
  refine hl _ ⟨a, rfl, ⟨_, hs⟩, fun D hD => ?_⟩
  refine lc_tup (K := K) (a := a) (xs := xs) (fun i H' => Same H H' ∧ H' D = some (.lst ((xs.take i).map f))) ⟨same_upd hD, upd_same⟩ (fun i H' _ h => keep H' h.1) ?_ ?_
  · rintro i x H' hx ⟨s, e⟩
    refine ⟨hw x, rd_yes (iteT ?_)⟩
    refine he i x H' hx s _ fun H'' s2 => ?_
    refine ⟨_, s2 _ _ e, ?_, ?_, ?_⟩
    · rw [List.length_map, List.length_take]
      exact sz4' (by have := (List.getElem?_eq_some_iff.mp hx).1; omega)
    · intro b o eb
      rw [upd_ne (ne_of_none eb hD)]
      exact s2 _ _ (s _ _ eb)
    · rw [upd_same, List.take_add_one, hx, List.map_append]; rfl
  · rintro H' ⟨s, e⟩
    rw [List.take_length] at e
    exact q D H' hD s e
end
end D0
namespace D0
open PySem PySem.Spec PyProof.Rows L2
section
variable {K : PySem.W.Frag} {σ : L2.St} {H : Hp} {Q : VK} {te : TE} {ta : TA} {vs : List Nat} {j : Nat}
/-- [e for k in range(n)], e a value f k -/
theorem lc_rmap {n : Nat} (f : Nat → V) (hn : n ≤ 100000) (hl : ∀ Qe : List V → Hp → Prop, Qe [.int (n : Int)] H → ta σ H Qe) (hw : ∀ x, wipe ((wipe σ vs).set j (some x)) vs = wipe σ vs)
    (he : ∀ (i : Nat) (H' : Hp), i < n → Same H H' → ∀ Qe : VK, (∀ H'', Same H' H'' → Qe (f i) H'') → te ((wipe σ vs).set j (some (.int (i : Int)))) H' Qe)
    (q : ∀ D H', H D = none → Same H H' → H' D = some (.lst ((List.range n).map f)) → Q (.ref D) H') : tLc (iRng1 ta) (gName j) tYes te vs σ H Q := by
  refine hl _ ⟨(n : Int), rfl, by omega, by omega, fun D hD => ?_⟩
  refine lc_range (lo := 0) (n := ((n : Int)).toNat) (fun i H' => Same H H' ∧ H' D = some (.lst ((List.range i).map f))) ⟨same_upd hD, upd_same⟩ ?_ ?_
  · rintro i H' hi ⟨s, e⟩
    refine ⟨hw _, rd_yes (iteT ?_)⟩
    rw [show (0 : Int) + (i : Int) = (i : Int) by omega]
    refine he i H' (by omega) s _ fun H'' s2 => ?_
    refine ⟨_, s2 _ _ e, ?_, ?_, ?_⟩
    · rw [List.length_map, List.length_range]
      exact sz4' (by omega)
    · intro b o eb
      rw [upd_ne (ne_of_none eb hD)]
      exact s2 _ _ (s _ _ eb)
    · rw [upd_same, List.range_succ, List.map_append]; rfl
  · rintro H' ⟨s, e⟩
    exact q D H' hD s e
end
theorem zip_range (rs : List (List Int)) (fs : List Int) (h : fs.length = rs.length) : (List.range rs.length).map (fun k => fs.getD k 0 * (rs.getD k []).getD 2 0) = (rs.zip fs).map fun p => p.1.getD 2 0 * p.2 := by
  apply List.ext_getElem
  · simp; omega
  · intro k h1 h2
    have hk : k < rs.length := by simpa using h1
    have hk2 : k < fs.length := by omega
    simp [List.getD_eq_getElem?_getD, hk, hk2, Int.mul_comm]
end D0
namespace D0
open PySem PySem.Spec PyProof.Rows L2
def OffS (S : List Addr) (H H' : Hp) : Prop := ∀ a o, a ∉ S → H a = some o → H' a = some o
theorem OffS.refl (S : List Addr) (H : Hp) : OffS S H H := fun _ _ _ e => e
theorem OffS.trans {S : List Addr} {H H1 H2 : Hp} (x : OffS S H H1) (y : OffS S H1 H2) : OffS S H H2 := fun a o n e => y a o n (x a o n e)
theorem OffS.new {S : List Addr} {H H1 : Hp} {p : Addr} {o : HO} (x : OffS S H H1) (h : H1 p = none) : OffS S H (upd H1 p o) := fun a u n e => same_upd h _ _ (x a u n e)
theorem OffS.set {S : List Addr} {H H1 : Hp} {p : Addr} {o : HO} (x : OffS S H H1) (h : p ∈ S) : OffS S H (upd H1 p o) := fun a u n e => (upd_ne fun q => n (by rw [q]; exact h)).trans (x a u n e)
theorem OffS.mut {S : List Addr} {H H1 : Hp} {p : Addr} {o : HO} (x : OffS S H H1) (h : H p = none) : OffS S H (upd H1 p o) := fun a u n e => (upd_ne (ne_of_none e h)).trans (x a u n e)
theorem OffS.off {S : List Addr} {b : Addr} {H H1 H2 : Hp} (x : OffS S H H1) (h : b ∈ S) (y : Off b H1 H2) : OffS S H H2 := fun a u n e => y a u (fun q => n (by rw [q]; exact h)) (x a u n e)
theorem OffS.same {S : List Addr} {H H1 H2 : Hp} (x : OffS S H H1) (y : Same H1 H2) : OffS S H H2 := fun a u n e => y a u (x a u n e)
theorem OffS.get {S : List Addr} {H H' : Hp} {a : Addr} {o : HO} (x : OffS S H H') (n : a ∉ S) (e : H a = some o) : H' a = some o := x a o n e
theorem OffS.fresh {S : List Addr} {H H1 : Hp} {p : Addr} (x : OffS S H H1) (n : p ∉ S) (h : H1 p = none) : H p = none := by
  cases e : H p with
  | none => rfl
  | some o => rw [x p o n e] at h; cases h
/-- what is not in the first list or was not there at first -/
theorem OffS.to {S : List Addr} {b : Addr} {H0 H H1 : Hp} (x : OffS S H H1) (f : Off b H0 H) (h : ∀ a ∈ S, a = b ∨ H0 a = none) : Off b H0 H1 := fun a u n e =>
  x a u (fun m => (h a m).elim n fun z => by rw [z] at e; cases e) (f a u n e)
theorem OffS.toS {S T : List Addr} {H0 H H1 : Hp} (x : OffS S H H1) (f : OffS T H0 H) (h : ∀ a ∈ S, a ∈ T ∨ H0 a = none) : OffS T H0 H1 := fun a u n e =>
  x a u (fun m => (h a m).elim n fun z => by rw [z] at e; cases e) (f a u n e)
theorem OffS.of_off {S : List Addr} {b : Addr} {H H1 : Hp} (x : Off b H H1) (h : b ∈ S) : OffS S H H1 := (OffS.refl S H).off h x
theorem OffS.ts {S : List Addr} {H H' : Hp} (x : OffS S H H') (h : ∀ a ∈ S, ∃ xs, H a = some (.lst xs)) : TS H H' := fun a xs e => by
  by_cases m : a ∈ S
  · obtain ⟨ys, z⟩ := h a m
    rw [z] at e; cases e
  · exact x a _ m e
theorem BagAt.lst {b c : Addr} {cs : List Int} {H : Hp} (x : BagAt b c cs H) : ∃ xs, H b = some (.lst xs) := by
  obtain ⟨i, z, s, n, k, e, _⟩ := x
  exact ⟨_, e⟩
def TnF (H : Hp) (v : V) (p : List Int × Int) : Prop := ∃ a x, v = .ref a ∧ H a = some (.tup [x, .int p.2]) ∧ Tn H x p.1
theorem TnF.ts {H H' : Hp} {v : V} {p : List Int × Int} (x : TnF H v p) (t : TS H H') : TnF H' v p := by
  obtain ⟨a, y, rfl, e, z⟩ := x
  exact ⟨a, y, rfl, t _ _ e, z.ts t⟩
theorem TnF.same {H H' : Hp} {v : V} {p : List Int × Int} (x : TnF H v p) (t : Same H H') : TnF H' v p := x.ts (.of_same t)
theorem Paired.take {α β : Type} {F : α → β → Prop} : ∀ {l₁ : List α} {l₂ : List β} (n : Nat), Paired F l₁ l₂ → Paired F (l₁.take n) (l₂.take n)
  | _, _, 0, _ => by rw [List.take_zero, List.take_zero]; exact .nil
  | _, _, _ + 1, .nil => by rw [List.take_nil, List.take_nil]; exact .nil
  | _, _, n + 1, .cons h t => by rw [List.take_succ_cons, List.take_succ_cons]; exact .cons h (Paired.take n t)
theorem Paired.of_get {α β : Type} {F : α → β → Prop} : ∀ {l₁ : List α} {l₂ : List β}, l₁.length = l₂.length → (∀ (i : Nat) x y, l₁[i]? = some x → l₂[i]? = some y → F x y) → Paired F l₁ l₂
  | [], [], _, _ => .nil
  | [], _ :: _, h, _ => by simp at h
  | _ :: _, [], h, _ => by simp at h
  | _ :: _, _ :: _, h, f => .cons (f 0 _ _ rfl rfl) (Paired.of_get (by simpa using h) fun i x y hx hy => f (i + 1) x y (by simpa using hx) (by simpa using hy))
theorem Paired.map2 {α β γ : Type} {F : α → γ → Prop} (f : β → γ) : ∀ {l₁ : List α} {l₂ : List β}, Paired (fun x y => F x (f y)) l₁ l₂ → Paired F l₁ (l₂.map f)
  | _, _, .nil => .nil
  | _, _, .cons h t => .cons h (Paired.map2 f t)
theorem Paired.map1 {α β γ : Type} {F : γ → β → Prop} (f : α → γ) : ∀ {l₁ : List α} {l₂ : List β}, Paired (fun x y => F (f x) y) l₁ l₂ → Paired F (l₁.map f) l₂
  | _, _, .nil => .nil
  | _, _, .cons h t => .cons h (Paired.map1 f t)
theorem Paired.map2' {α β γ : Type} {F : α → γ → Prop} (f : β → γ) : ∀ {l₁ : List α} {l₂ : List β}, Paired F l₁ (l₂.map f) → Paired (fun x y => F x (f y)) l₁ l₂
  | [], [], _ => .nil
  | [], _ :: _, h => by cases h
  | _ :: _, [], h => by cases h
  | _ :: _, _ :: _, .cons h t => .cons h (Paired.map2' f t)
theorem Paired.fn {α β : Type} (f : β → α) : ∀ {l₁ : List α} {l₂ : List β}, Paired (fun x y => x = f y) l₁ l₂ → l₁ = l₂.map f
  | _, _, .nil => rfl
  | _, _, .cons h t => by rw [h, Paired.fn f t]; rfl
theorem Paired.app {α β : Type} {F : α → β → Prop} : ∀ {l₁ : List α} {l₂ : List β} {m₁ : List α} {m₂ : List β}, Paired F l₁ l₂ → Paired F m₁ m₂ → Paired F (l₁ ++ m₁) (l₂ ++ m₂)
  | _, _, _, _, .nil, h => h
  | _, _, _, _, .cons h t, h2 => .cons h (Paired.app t h2)
theorem Paired.get2 {α β : Type} {F : α → β → Prop} : ∀ {xs : List α} {ys : List β} {i : Nat} {y : β}, Paired F xs ys → ys[i]? = some y → ∃ x, xs[i]? = some x ∧ F x y
  | _, _, i, y, .nil, h => by simp at h
  | _, _, 0, y, .cons f _, h => by
    rw [List.getElem?_cons_zero] at h
    cases h
    exact ⟨_, rfl, f⟩
  | _, _, i + 1, y, .cons _ t, h => by
    rw [List.getElem?_cons_succ] at h
    obtain ⟨x, e, f⟩ := Paired.get2 t h
    exact ⟨x, by rw [List.getElem?_cons_succ]; exact e, f⟩
/-- a rearranged list of values has a rearranged list of what it stands for -/
theorem Paired.perm {α β : Type} {F : α → β → Prop} {xs ys : List α} (p : ys.Perm xs) : ∀ {rs : List β}, Paired F xs rs → ∃ ss, Paired F ys ss ∧ ss.Perm rs := by
  induction p with
  | nil => intro rs h; cases h; exact ⟨[], .nil, List.Perm.refl _⟩
  | cons x _ ih =>
    intro rs h
    cases h with
    | cons h t =>
      obtain ⟨ss, h2, p2⟩ := ih t
      exact ⟨_ :: ss, .cons h h2, p2.cons _⟩
  | swap x y l =>
    intro rs h
    cases h with
    | cons h t => cases t with
      | cons h2 t2 => exact ⟨_, .cons h2 (.cons h t2), List.Perm.swap ..⟩
  | trans _ _ ih1 ih2 =>
    intro rs h
    obtain ⟨ss, h1, p1⟩ := ih2 h
    obtain ⟨ss', h2, p2⟩ := ih1 h1
    exact ⟨ss', h2, p2.trans p1⟩
theorem dSlTA {X : Cx} (K : PySem.W.Frag) (hK : X.K = K := by rfl) : SlR X (rSlA K) := by subst hK; exact sl_tupA
theorem cut_take (xs : List V) (k : Nat) : cutV xs none (some (k : Int)) = xs.take k := by
  unfold cutV
  rw [HT.sIx_none, HT.sIx_nat, List.drop_zero, Nat.sub_zero]
  by_cases h : k ≤ xs.length
  · rw [Nat.min_eq_left h]
  · rw [Nat.min_eq_right (by omega), List.take_length, List.take_of_length_le (by omega)]
theorem cut_drop (xs : List V) (k : Nat) : cutV xs (some (k : Int)) none = xs.drop k := by
  unfold cutV
  rw [HT.sIx_none, HT.sIx_nat]
  by_cases h : k ≤ xs.length
  · rw [Nat.min_eq_left h, List.take_of_length_le (by rw [List.length_drop]; omega)]
  · rw [Nat.min_eq_right (by omega), List.drop_length, List.drop_eq_nil_of_le (by omega), List.take_nil]
theorem rv_slTA {K : PySem.W.Frag} {H : Hp} {Q : VK} {p : Addr} {xs : List V} {lo hi : Option Int} (h : H p = some (.tup xs)) (q : ∀ a H', Same H H' → H' a = some (.tup (cutV xs lo hi)) → Q (.ref a) H') : rSlA K (.ref p) lo hi H Q := by
  refine ⟨p, xs, rfl, SqT.of h, fun w => q p H (fun _ _ e => e) ?_, fun _ a ha => q a _ (same_upd ha) upd_same⟩
  have e : cutV xs lo hi = xs := by
    unfold cutV
    rw [w.1, w.2, List.drop_zero, Nat.sub_zero, List.take_length]
  rw [e]
  exact h
theorem rg_ints (n : Nat) : rgV 0 (n : Int) = ((List.range n).map fun i : Nat => (i : Int)).map V.int := by
  unfold rgV
  rw [List.map_map, show ((n : Int) - 0).toNat = n by omega]
  exact List.map_congr_left fun i _ => by show V.int (0 + (i : Int)) = V.int (i : Int); rw [Int.zero_add]
section
variable {K : PySem.W.Frag} {σ : L2.St} {H : Hp} {Q : VK} {te tl : TE} {ta : TA} {vs : List Nat} {j : Nat} {g : TG} {tt : TT}
theorem rd_listRg {te : L2.St → Hp → (Int → Int → Hp → Prop) → Prop} (q : te σ H fun a b H1 => RgOk a b ∧ ∀ q, H1 q = none → Q (.ref q) (upd H1 q (.lst (rgV a b)))) : tLstRg te σ H Q := q
theorem rd_tupRg {te : L2.St → Hp → (Int → Int → Hp → Prop) → Prop} (q : te σ H fun a b H1 => RgOk a b ∧ ∀ q, H1 q = none → Q (.ref q) (upd H1 q (.tup (rgV a b)))) : tTupRg te σ H Q := q
theorem rd_rg1 {R : Int → Int → Hp → Prop} (q : te σ H fun x H1 => ∃ n, x = .int n ∧ R 0 n H1) : tRg1 te σ H R := q
theorem rd_rg2 {R : Int → Int → Hp → Prop} (q : te σ H fun x H1 => tl σ H1 fun y H2 => ∃ i j, x = .int i ∧ y = .int j ∧ R i j H2) : tRg2 te tl σ H R := q
theorem rv_i1 {i : Int} {R : Int → Prop} (q : R i) : ∃ n, V.int i = V.int n ∧ R n := ⟨i, rfl, q⟩
theorem rv_i2 {i j : Int} {R : Int → Int → Prop} (q : R i j) : ∃ n m, V.int i = V.int n ∧ V.int j = V.int m ∧ R n m := ⟨i, j, rfl, rfl, q⟩
def LC (J : It) (g : TG) (tt : TT) (te : TE) (vs : List Nat) (σ : L2.St) (H1 : Hp) (Q : VK) : Prop := ∀ D, H1 D = none → ∃ W : Nat → Nat → Hp → Prop, (∃ m, W 0 m (upd H1 D (.lst []))) ∧ ∀ i m H, W i m H →
  (J.stop i H ∧ Q (.ref D) H) ∨ (J.go i H ∧ ∃ Nx : Hp → Prop, (∀ H', Nx H' → ∃ m', m' < m ∧ W (i + 1) m' H') ∧ ∀ x H', J.yld i H x H' → g x (wipe σ vs) H' fun σ2 H2 => wipe σ2 vs = wipe σ vs ∧ tt σ2 H2 fun b H3 =>
    if b = true then te σ2 H3 fun y H4 => ∃ acc, H4 D = some (.lst acc) ∧ acc.length < sizeLine ∧ Nx (upd H4 D (.lst (acc ++ [y]))) else Nx H3)
theorem rd_lc {wi : TI} (q : wi σ H fun J H1 => LC J g tt te vs σ H1 Q) : tLc wi g tt te vs σ H Q := q
/-- a comprehension that changes nothing that stood: for each turn i that is kept a value y with Gd i y -/
theorem lc_pureG {J : It} {n : Nat} {G : Hp → Prop} {Y : Nat → Hp → V → Hp → Prop} (w : Walk J n G Y) (kp : Nat → Bool) (Gd : Addr → Nat → V → Hp → Prop) (hn : n ≤ 100000)
    (hG : ∀ H', Same H H' → G H') (hY : ∀ i H' x H2, Y i H' x H2 → Same H' H2) (hS : ∀ D i y H1 H2, (∃ zs, H1 D = some (.lst zs)) → Off D H1 H2 → Gd D i y H1 → Gd D i y H2)
    (he : ∀ (D : Addr) (i : Nat) (x : V) (H' H2 : Hp) (Nx : VK) (E : Hp → Prop), i < n → H D = none → (∃ zs, H' D = some (.lst zs)) → Same H H' → Same H' H2 → Y i H' x H2 → (kp i = true → ∀ y H'', Same H2 H'' → Gd D i y H'' → Nx y H'') → (kp i = false → ∀ H'', Same H2 H'' → E H'') →
      g x (wipe σ vs) H2 fun σ2 H3 => wipe σ2 vs = wipe σ vs ∧ tt σ2 H3 fun b H4 => if b = true then te σ2 H4 Nx else E H4)
    (q : ∀ D ys H', H D = none → Same H H' → H' D = some (.lst ys) → Paired (fun y i => Gd D i y H') ys ((List.range n).filter kp) → Q (.ref D) H') : LC J g tt te vs σ H Q := by
  intro D hD
  refine lc_it w (fun i H' => Same H H' ∧ ∃ ys, H' D = some (.lst ys) ∧ Paired (fun y i => Gd D i y H') ys ((List.range i).filter kp)) ⟨same_upd hD, [], upd_same, .nil⟩ (fun i H' _ h => hG _ h.1) ?_ ?_
  · rintro i x H' H2 hi ⟨s, ys, e, p⟩ hy
    have s2 : Same H' H2 := hY _ _ _ _ hy
    have hlen : ys.length ≤ i := by
      rw [Paired.len p]
      exact Nat.le_trans (List.length_filter_le _ _) (by rw [List.length_range]; omega)
    refine he D i x H' H2 _ _ hi hD ⟨ys, e⟩ s s2 hy (fun hk y H'' s3 gy => ?_) (fun hk H'' s3 => ?_)
    · have s23 := s2.trans s3
      have su : Off D H'' (upd H'' D (.lst (ys ++ [y]))) := (Off.refl D H'').set
      have e'' := s23 _ _ e
      refine ⟨ys, e'', sz4' (by omega), ?_, ys ++ [y], upd_same, ?_⟩
      · intro b o eb
        rw [upd_ne (ne_of_none eb hD)]
        exact s23 _ _ (s _ _ eb)
      · rw [List.range_succ, List.filter_append]
        simp only [List.filter_cons, hk, List.filter_nil, if_true]
        refine Paired.app (Paired.mapP p fun y i h => hS D i y _ _ ⟨_, e⟩ ((Off.of_same s23).trans su) h) (.cons (hS D i y _ _ ⟨_, e''⟩ su gy) .nil)
    · refine ⟨s.trans (s2.trans s3), ys, (s2.trans s3) _ _ e, ?_⟩
      rw [List.range_succ, List.filter_append]
      simp only [List.filter_cons, hk, List.filter_nil, if_neg Bool.false_ne_true, List.append_nil]
      exact Paired.mapP p fun y i => hS D i y _ _ ⟨_, e⟩ (.of_same (s2.trans s3))
  · rintro H' ⟨s, ys, e, p⟩
    exact q D ys H' hD s e p
/-- a comprehension that draws from the bag at b -/
theorem lc_drawG {J : It} {n : Nat} {G : Hp → Prop} {Y : Nat → Hp → V → Hp → Prop} {b c : Addr} {cs : List Int} (w : Walk J n G Y) (Gd : Addr → Nat → V → Hp → Prop) (hn : n ≤ 100000) (B : BagAt b c cs H)
    (hG : ∀ H', Off b H H' → G H') (hY : ∀ i H' x H2, Y i H' x H2 → Same H' H2) (hS : ∀ D i y H1 H2, D ≠ b → (∃ zs, H1 D = some (.lst zs)) → (∃ zs, H1 b = some (.lst zs)) → OffS [b, D] H1 H2 → Gd D i y H1 → Gd D i y H2)
    (he : ∀ (D : Addr) (i : Nat) (x : V) (H' H2 : Hp) (Qe : VK) (E : Hp → Prop), i < n → H D = none → (∃ zs, H' D = some (.lst zs)) → Off b H H' → BagAt b c cs H2 → Same H' H2 → Y i H' x H2 → (∀ y H'', Off b H2 H'' → BagAt b c cs H'' → Gd D i y H'' → Qe y H'') →
      g x (wipe σ vs) H2 fun σ2 H3 => wipe σ2 vs = wipe σ vs ∧ tt σ2 H3 fun b H4 => if b = true then te σ2 H4 Qe else E H4)
    (q : ∀ D ys H', H D = none → Off b H H' → BagAt b c cs H' → H' D = some (.lst ys) → D ≠ b → D ≠ c → Paired (fun y i => Gd D i y H') ys (List.range n) → Q (.ref D) H') : LC J g tt te vs σ H Q := by
  intro D hD
  have hDb : D ≠ b := B.ne hD
  have hDc : D ≠ c := B.ne2 hD
  have hbD : b ≠ D := hDb.symm
  refine lc_it w (fun i H' => Off b H H' ∧ BagAt b c cs H' ∧ ∃ ys, H' D = some (.lst ys) ∧ Paired (fun y i => Gd D i y H') ys (List.range i)) ⟨(Off.refl b H).new hD, B.new hD, [], upd_same, .nil⟩ (fun i H' _ h => hG _ h.1) ?_ ?_
  · rintro i x H' H2 hi ⟨f, B', ys, e, p⟩ hy
    have s2 : Same H' H2 := hY _ _ _ _ hy
    have hlen : ys.length = i := by rw [Paired.len p, List.length_range]
    refine he D i x H' H2 _ _ hi hD ⟨ys, e⟩ f (B'.same s2) s2 hy fun y H'' f3 B3 gy => ?_
    have f23 : Off b H' H'' := (Off.of_same s2).trans f3
    have e'' := f23.get hDb e
    have su : OffS [b, D] H'' (upd H'' D (.lst (ys ++ [y]))) := (OffS.refl _ _).set (by simp)
    refine ⟨ys, e'', sz4' (by omega), (f.trans f23).mut hD, B3.put hDb hDc, ys ++ [y], upd_same, ?_⟩
    rw [List.range_succ]
    exact Paired.app (Paired.mapP p fun y i h => hS D i y _ _ hDb ⟨_, e⟩ B'.lst ((OffS.of_off f23 (by simp)).trans su) h) (.cons (hS D i y _ _ hDb ⟨_, e''⟩ B3.lst su gy) .nil)
  · rintro H' ⟨f, B', ys, e, p⟩
    exact q D ys H' hD f B' e hDb hDc p
theorem Off.ts {b : Addr} {H H' : Hp} (x : Off b H H') (h : ∃ zs, H b = some (.lst zs)) : TS H H' := fun a xs e => by
  by_cases m : a = b
  · obtain ⟨ys, z⟩ := h
    rw [m, z] at e; cases e
  · exact x a _ m e
theorem Paired.of_range {α β : Type} {F : α → β → Prop} {ys : List α} {rs : List β} {n : Nat} (hn : n = rs.length) (h : Paired (fun y i => ∃ r, rs[i]? = some r ∧ F y r) ys (List.range n)) : Paired F ys rs := by
  refine Paired.of_get (by rw [Paired.len h, List.length_range, hn]) fun i y r hy hr => ?_
  obtain ⟨k, hk, r', e, f⟩ := Paired.get1 h hy
  have hi : i < n := by rw [hn]; exact (List.getElem?_eq_some_iff.mp hr).1
  rw [List.getElem?_range hi] at hk
  cases hk
  rw [hr] at e
  cases e
  exact f
/-- for each r of rs a value y with F y r; F speaks of tuples alone -/
theorem lc_pureT {β : Type} {J : It} {n : Nat} {G : Hp → Prop} {Y : Nat → Hp → V → Hp → Prop} (w : Walk J n G Y) (rs : List β) (F : Hp → V → β → Prop) (hl : n = rs.length) (hn : n ≤ 100000)
    (hG : ∀ H', Same H H' → G H') (hY : ∀ i H' x H2, Y i H' x H2 → Same H' H2) (hF : ∀ H1 H2 y r, TS H1 H2 → F H1 y r → F H2 y r)
    (he : ∀ (i : Nat) (r : β) (x : V) (H' H2 : Hp) (Nx : VK) (E : Hp → Prop), rs[i]? = some r → Same H H' → Same H' H2 → Y i H' x H2 → (∀ y H'', Same H2 H'' → F H'' y r → Nx y H'') →
      g x (wipe σ vs) H2 fun σ2 H3 => wipe σ2 vs = wipe σ vs ∧ tt σ2 H3 fun b H4 => if b = true then te σ2 H4 Nx else E H4)
    (q : ∀ D ys H', H D = none → Same H H' → H' D = some (.lst ys) → Paired (F H') ys rs → Q (.ref D) H') : LC J g tt te vs σ H Q := by
  refine lc_pureG w (fun _ => true) (fun _ i y H' => ∃ r, rs[i]? = some r ∧ F H' y r) hn hG hY (fun D i y H1 H2 z f ⟨r, er, h⟩ => ⟨r, er, hF _ _ _ _ (Off.ts f z) h⟩) ?_ ?_
  · intro D i x H' H2 Nx E hi hD eD s s2 hy hN _
    have er : rs[i]? = some (rs[i]'(by omega)) := List.getElem?_eq_getElem (by omega)
    exact he i _ x H' H2 Nx E er s s2 hy fun y H'' s3 f => hN rfl y H'' s3 ⟨_, er, f⟩
  · intro D ys H' hD s e p
    rw [ftrue] at p
    exact q D ys H' hD s e (Paired.of_range hl p)
/-- the value f i for each turn i that is kept -/
theorem lc_pureF {J : It} {n : Nat} {G : Hp → Prop} {Y : Nat → Hp → V → Hp → Prop} (w : Walk J n G Y) (kp : Nat → Bool) (f : Nat → V) (hn : n ≤ 100000)
    (hG : ∀ H', Same H H' → G H') (hY : ∀ i H' x H2, Y i H' x H2 → Same H' H2)
    (he : ∀ (i : Nat) (x : V) (H' H2 : Hp) (Nx : VK) (E : Hp → Prop), i < n → Same H H' → Same H' H2 → Y i H' x H2 → (kp i = true → ∀ H'', Same H2 H'' → Nx (f i) H'') → (kp i = false → ∀ H'', Same H2 H'' → E H'') →
      g x (wipe σ vs) H2 fun σ2 H3 => wipe σ2 vs = wipe σ vs ∧ tt σ2 H3 fun b H4 => if b = true then te σ2 H4 Nx else E H4)
    (q : ∀ D H', H D = none → Same H H' → H' D = some (.lst (((List.range n).filter kp).map f)) → Q (.ref D) H') : LC J g tt te vs σ H Q := by
  refine lc_pureG w kp (fun _ i y _ => y = f i) hn hG hY (fun D i y H1 H2 _ _ h => h) ?_ ?_
  · intro D i x H' H2 Nx E hi hD eD s s2 hy hN hE
    exact he i x H' H2 Nx E hi s s2 hy (fun hk H'' s3 => hN hk _ H'' s3 rfl) hE
  · intro D ys H' hD s e p
    exact q D H' hD s (by rw [e, Paired.fn f p])
/-- a comprehension that draws: for each r of rs a value y with F y r -/
theorem lc_drawT {β : Type} {J : It} {n : Nat} {G : Hp → Prop} {Y : Nat → Hp → V → Hp → Prop} {b c : Addr} {cs : List Int} (w : Walk J n G Y) (rs : List β) (F : Hp → V → β → Prop) (hl : n = rs.length) (hn : n ≤ 100000) (B : BagAt b c cs H)
    (hG : ∀ H', Off b H H' → G H') (hY : ∀ i H' x H2, Y i H' x H2 → Same H' H2) (hF : ∀ H1 H2 y r, TS H1 H2 → F H1 y r → F H2 y r)
    (he : ∀ (i : Nat) (r : β) (x : V) (H' H2 : Hp) (Qe : VK) (E : Hp → Prop), rs[i]? = some r → Off b H H' → BagAt b c cs H2 → Same H' H2 → Y i H' x H2 → (∀ y H'', Off b H2 H'' → BagAt b c cs H'' → F H'' y r → Qe y H'') →
      g x (wipe σ vs) H2 fun σ2 H3 => wipe σ2 vs = wipe σ vs ∧ tt σ2 H3 fun b H4 => if b = true then te σ2 H4 Qe else E H4)
    (q : ∀ D ys H', H D = none → Off b H H' → BagAt b c cs H' → H' D = some (.lst ys) → D ≠ b → D ≠ c → Paired (F H') ys rs → Q (.ref D) H') : LC J g tt te vs σ H Q := by
  refine lc_drawG w (fun _ i y H' => ∃ r, rs[i]? = some r ∧ F H' y r) hn B hG hY (fun D i y H1 H2 _ z zb f ⟨r, er, h⟩ => ⟨r, er, hF _ _ _ _ (OffS.ts f fun a m => ?_) h⟩) ?_ ?_
  · rcases List.mem_cons.mp m with m | m
    · rw [m]; exact zb
    · rw [List.mem_singleton.mp m]; exact z
  · intro D i x H' H2 Nx E hi hD eD f B2 s2 hy hN
    have er : rs[i]? = some (rs[i]'(by omega)) := List.getElem?_eq_getElem (by omega)
    exact he i _ x H' H2 Nx E er f B2 s2 hy fun y H'' s3 B3 fy => hN y H'' s3 B3 ⟨_, er, fy⟩
  · intro D ys H' hD f B' e h1 h2 p
    exact q D ys H' hD f B' e h1 h2 (Paired.of_range hl p)
theorem same_at {xs : List V} : ∀ i H' x H2, YAt xs i H' x H2 → Same H' H2 := fun i H' x H2 y => by rw [y.1]; exact fun _ _ e => e
theorem same_fn {f : Nat → V} : ∀ i H' x H2, YFn f i H' x H2 → Same H' H2 := fun i H' x H2 y => by rw [y.1]; exact fun _ _ e => e
end
end D0
namespace D0
open PySem PySem.Spec PyProof.Rows L2
structure DK (K : PySem.W.Frag) (α : Type) [DecidableEq α] where
  R : Hp → V → α → Prop
  pd : α → PyData
  dp : ∀ H v x, R H v x → Dp K H v (pd x)
  ev : ∀ x y, PyData.eqv (pd x) (pd y) = decide (x = y)
  lay : ∀ x, PyData.canLay0 (pd x) = true
  d : Nat
  dep : ∀ x, PyData.depth (pd x) ≤ d
def intK (K : PySem.W.Frag) : DK K Int := ⟨fun _ v x => v = .int x, .int, fun _ _ _ h => h ▸ .int _, fun x y => by
  show (x == y) = _
  by_cases h : x = y <;> simp [h], fun _ => rfl, 0, fun _ => Nat.le_refl _⟩
def boolK (K : PySem.W.Frag) : DK K Bool := ⟨fun _ v x => v = .bl x, .bool, fun _ _ _ h => h ▸ .bl _, fun x y => by
  show (x == y) = _
  by_cases h : x = y <;> simp [h], fun _ => rfl, 0, fun _ => Nat.le_refl _⟩
section
variable {K : PySem.W.Frag} {α : Type} [DecidableEq α]
theorem dpAll (k : DK K α) {H : Hp} : ∀ {vs : List V} {xs : List α}, Paired (k.R H) vs xs → DpAll K H vs (xs.map k.pd)
  | _, _, .nil => .nil
  | _, _, .cons h t => .cons (k.dp _ _ _ h) (dpAll k t)
theorem evAll (k : DK K α) : ∀ l m : List α, PyData.eqvAll (l.map k.pd) (m.map k.pd) = decide (l = m)
  | [], [] => rfl
  | [], _ :: _ => rfl
  | _ :: _, [] => rfl
  | x :: l, y :: m => by
    show (PyData.eqv (k.pd x) (k.pd y) && PyData.eqvAll (l.map k.pd) (m.map k.pd)) = _
    rw [evAll k l m, k.ev]
    by_cases h : x = y <;> simp [h]
theorem layAll (k : DK K α) : ∀ l : List α, PyData.canLayAll0 (l.map k.pd) = true
  | [] => rfl
  | x :: l => by
    show (PyData.canLay0 (k.pd x) && PyData.canLayAll0 (l.map k.pd)) = true
    rw [k.lay, layAll k l]; rfl
theorem depAll (k : DK K α) : ∀ l : List α, PyData.depthAll (l.map k.pd) ≤ k.d
  | [] => Nat.zero_le _
  | x :: l => by
    show max (PyData.depth (k.pd x)) (PyData.depthAll (l.map k.pd)) ≤ k.d
    have h1 := k.dep x
    have h2 := depAll k l
    omega
def lstK (k : DK K α) : DK K (List α) := ⟨fun H v xs => ∃ a vs, v = .ref a ∧ SqL K H a vs ∧ Paired (k.R H) vs xs, fun xs => .list (xs.map k.pd), fun H v x ⟨a, vs, e, h, p⟩ => e ▸ .lst h (dpAll k p),
  fun l m => evAll k l m, fun l => layAll k l, k.d + 1, fun l => Nat.succ_le_succ (depAll k l)⟩
def tupK (k : DK K α) : DK K (List α) := ⟨fun H v xs => ∃ a vs, v = .ref a ∧ SqT K H a vs ∧ Paired (k.R H) vs xs, fun xs => .tuple (xs.map k.pd), fun H v x ⟨a, vs, e, h, p⟩ => e ▸ .tup h (dpAll k p),
  fun l m => evAll k l m, fun l => layAll k l, k.d + 1, fun l => Nat.succ_le_succ (depAll k l)⟩
theorem paired_map {β : Type} {F : V → β → Prop} (f : β → V) (h : ∀ x, F (f x) x) : ∀ l : List β, Paired F (l.map f) l
  | [] => .nil
  | x :: l => .cons (h x) (paired_map f h l)
theorem intsK (H : Hp) (l : List Int) : Paired ((intK K).R H) (l.map V.int) l := paired_map (β := Int) V.int (fun _ => rfl) l
theorem boolsK (H : Hp) (l : List Bool) : Paired ((boolK K).R H) (l.map V.bl) l := paired_map (β := Bool) V.bl (fun _ => rfl) l
theorem shK (k : DK K α) (hd : k.d ≤ 64) (x : α) : SeqAt.shaped (k.pd x) = true := by
  unfold SeqAt.shaped
  rw [k.lay, Bool.true_and]
  exact decide_eq_true (Nat.le_trans (k.dep x) hd)
theorem dNeD {X : Cx} (K : PySem.W.Frag) (hu : X.A.units + 64 < cLine) (hK : X.K = K := by rfl) : OpR X (compareOp .NotEq) (rNeD K) := by subst hK; exact op_neD hu
variable {Q : VK} {H : Hp}
theorem rv_eqK (k : DK K α) {u v : V} {x y : α} (hx : k.R H u x) (hy : k.R H v y) (q : Q (.bl (decide (x = y))) H) (hd : k.d ≤ 64 := by exact Nat.le_of_ble_eq_true rfl) : rEqD K u v H Q :=
  ⟨_, _, k.dp _ _ _ hx, k.dp _ _ _ hy, shK k hd x, shK k hd y, by rw [k.ev]; exact q⟩
theorem rv_neK (k : DK K α) {u v : V} {x y : α} (hx : k.R H u x) (hy : k.R H v y) (q : Q (.bl (!decide (x = y))) H) (hd : k.d ≤ 64 := by exact Nat.le_of_ble_eq_true rfl) : rNeD K u v H Q :=
  ⟨_, _, k.dp _ _ _ hx, k.dp _ _ _ hy, shK k hd x, shK k hd y, by rw [k.ev]; exact q⟩
end
section
variable {σ : L2.St} {H : Hp} {Q : VK} {D : Ends} {td ty tv : TE} {v y : V} {a : Addr}
theorem rd_dget (q : td σ H fun x H1 => ty σ H1 fun y H2 => ∃ a v, x = .ref a ∧ DGet H2 a y (some v) ∧ Q v H2) : tDGet td ty σ H Q := q
theorem rd_din (q : ty σ H fun y H1 => td σ H1 fun x H2 => ∃ a o, x = .ref a ∧ DGet H2 a y o ∧ Q (.bl o.isSome) H2) : tDIn ty td σ H Q := q
theorem rd_dnin (q : ty σ H fun y H1 => td σ H1 fun x H2 => ∃ a o, x = .ref a ∧ DGet H2 a y o ∧ Q (.bl (!o.isSome)) H2) : tDNotIn ty td σ H Q := q
theorem rd_dput (q : tv σ H fun v H1 => td σ H1 fun x H2 => ty σ H2 fun y H3 => ∃ a H4, x = .ref a ∧ DPut H3 a y v H4 ∧ D.nx σ H4) : sDPut td ty tv D σ H := q
theorem rd_dnewK (q : ∀ p, H p = none → Q (.ref p) (upd H p (.dK []))) : tDNewK σ H Q := q
theorem rd_dnewT (q : ∀ p, H p = none → Q (.ref p) (upd H p (.dT []))) : tDNewT σ H Q := q
theorem rv_dget {R : V → Prop} (h : DGet H a y (some v)) (q : R v) : ∃ a' v', V.ref a = .ref a' ∧ DGet H a' y (some v') ∧ R v' := ⟨a, v, rfl, h, q⟩
theorem rv_din {o : Option V} {R : Option V → Prop} (h : DGet H a y o) (q : R o) : ∃ a' o', V.ref a = .ref a' ∧ DGet H a' y o' ∧ R o' := ⟨a, o, rfl, h, q⟩
theorem rv_dput {H' : Hp} {R : Hp → Prop} (h : DPut H a y v H') (q : R H') : ∃ a' H4, V.ref a = .ref a' ∧ DPut H a' y v H4 ∧ R H4 := ⟨a, H', rfl, h, q⟩
theorem dg_int {kvs : List (Key × V)} {i : Int} {o : Option V} (e : H a = some (.dK kvs)) (h : valV kvs (.inl i) = o) : DGet H a (.int i) o := h ▸ DGet.k (k := .inl i) e
theorem dg_str {kvs : List (Key × V)} {i : Str} {o : Option V} (e : H a = some (.dK kvs)) (h : valV kvs (.inr i) = o) : DGet H a (.str i) o := h ▸ DGet.k (k := .inr i) e
theorem dpu_int {kvs : List (Key × V)} {i : Int} (e : H a = some (.dK kvs)) (hl : kvs.length < sizeLine) : DPut H a (.int i) v (upd H a (.dK (putK kvs (.inl i) v))) := DPut.k (k := .inl i) e hl
end
theorem walk_enumT {K : PySem.W.Frag} {a : Addr} {xs : List V} : Walk (Itet K a) xs.length (fun H => SqT K H a xs) (YPair (fun i => some (.int (i : Nat))) (fun i => xs[i]?)) := by
  refine ⟨fun i _ hi q => ⟨xs, xs[i], q, by simp [hi]⟩, fun _ q => ⟨xs, q, Nat.le_refl _⟩, fun i H v H' _ q y => ?_⟩
  obtain ⟨T, x, h1, h2, h3, h4⟩ := y
  exact ⟨T, .int (i : Nat), x, h1, h2, h3, rfl, h4 xs q⟩
theorem same_pair {xs ys : Nat → Option V} : ∀ i H' x H2, YPair xs ys i H' x H2 → Same H' H2 := fun i H' x H2 y => by
  obtain ⟨T, u, v, _, h, e, _⟩ := y
  rw [e]; exact same_upd h
theorem rep_one {α : Type} (n : Nat) (x : α) (k : Int) (h : k = (n : Int)) : (List.replicate k.toNat [x]).flatten = List.replicate n x := by
  subst h
  rw [Int.toNat_natCast]
  induction n with
  | zero => rfl
  | succ n ih => rw [List.replicate_succ, List.flatten_cons, ih, List.replicate_succ]; rfl
end D0
namespace D0
/-- the first arc from x to a number that is alive -/
def firstA (as : List (Nat × Nat)) (al : List Bool) (x : Nat) : Option Nat := as.findIdx? fun p => decide (p.1 = x) && al.getD p.2 false
def onwA (n : Nat) (as : List (Nat × Nat)) (al : List Bool) : List (Option Nat) := (List.range n).map (firstA as al)
def stepA (n : Nat) (as : List (Nat × Nat)) (al : List Bool) : List Bool := (onwA n as al).map Option.isSome
def iterA (n : Nat) (as : List (Nat × Nat)) : Nat → List Bool
  | 0 => List.replicate n true
  | k + 1 => stepA n as (iterA n as k)
theorem stepA_len (n : Nat) (as : List (Nat × Nat)) (al : List Bool) : (stepA n as al).length = n := by
  unfold stepA onwA; rw [List.length_map, List.length_map, List.length_range]
theorem stepA_get {n : Nat} {as : List (Nat × Nat)} {al : List Bool} {x : Nat} (h : x < n) : (stepA n as al).getD x false = (firstA as al x).isSome := by
  unfold stepA onwA
  rw [List.getD_eq_getElem?_getD, List.getElem?_map, List.getElem?_map, List.getElem?_range h]; rfl
theorem stepA_out {n : Nat} {as : List (Nat × Nat)} {al : List Bool} {x : Nat} (h : ¬ x < n) : (stepA n as al).getD x false = false := by
  rw [List.getD_eq_getElem?_getD, List.getElem?_eq_none (by rw [stepA_len]; omega)]; rfl
theorem firstA_some {as : List (Nat × Nat)} {al : List Bool} {x k : Nat} (h : firstA as al x = some k) : ∃ e, as[k]? = some (x, e) ∧ al.getD e false = true := by
  unfold firstA at h
  obtain ⟨hk, hp, _⟩ := List.findIdx?_eq_some_iff_getElem.mp h
  rw [Bool.and_eq_true, decide_eq_true_eq] at hp
  exact ⟨as[k].2, by rw [List.getElem?_eq_getElem hk, ← hp.1], hp.2⟩
theorem firstA_isSome {as : List (Nat × Nat)} {al : List Bool} {x : Nat} : (firstA as al x).isSome = true ↔ ∃ e, (x, e) ∈ as ∧ al.getD e false = true := by
  constructor
  · intro h
    obtain ⟨k, hk⟩ := Option.isSome_iff_exists.mp h
    obtain ⟨e, h1, h2⟩ := firstA_some hk
    exact ⟨e, List.mem_of_getElem? h1, h2⟩
  · rintro ⟨e, h1, h2⟩
    unfold firstA
    rw [List.findIdx?_isSome, List.any_eq_true]
    exact ⟨(x, e), h1, by simp only [decide_true, Bool.true_and]; exact h2⟩
/-- below one another -/
def LeB (l m : List Bool) : Prop := ∀ x, l.getD x false = true → m.getD x false = true
theorem stepA_mono {n : Nat} {as : List (Nat × Nat)} {l m : List Bool} (h : LeB l m) : LeB (stepA n as l) (stepA n as m) := by
  intro x hx
  by_cases hn : x < n
  · rw [stepA_get hn] at hx ⊢
    obtain ⟨e, h1, h2⟩ := firstA_isSome.mp hx
    exact firstA_isSome.mpr ⟨e, h1, h e h2⟩
  · rw [stepA_out hn] at hx; cases hx
theorem iterA_len (n : Nat) (as : List (Nat × Nat)) : ∀ k, (iterA n as k).length = n
  | 0 => List.length_replicate ..
  | _ + 1 => stepA_len ..
theorem iterA_dec (n : Nat) (as : List (Nat × Nat)) : ∀ k, LeB (iterA n as (k + 1)) (iterA n as k)
  | 0 => by
    intro x hx
    by_cases hn : x < n
    · show (List.replicate n true).getD x false = true
      rw [List.getD_eq_getElem?_getD, List.getElem?_replicate, if_pos hn]; rfl
    · rw [show iterA n as 1 = stepA n as (iterA n as 0) from rfl, stepA_out hn] at hx; cases hx
  | k + 1 => stepA_mono (iterA_dec n as k)
theorem iterA_stays {n : Nat} {as : List (Nat × Nat)} {k : Nat} (h : stepA n as (iterA n as k) = iterA n as k) : ∀ j, iterA n as (k + j) = iterA n as k
  | 0 => rfl
  | j + 1 => by
    show stepA n as (iterA n as (k + j)) = _
    rw [iterA_stays h j, h]
theorem iterA_one {n : Nat} {as : List (Nat × Nat)} {k j : Nat} (h : stepA n as (iterA n as k) = iterA n as k) (h' : stepA n as (iterA n as j) = iterA n as j) : iterA n as k = iterA n as j := by
  rcases Nat.le_total k j with e | e
  · obtain ⟨d, rfl⟩ := Nat.le.dest e
    exact (iterA_stays h d).symm
  · obtain ⟨d, rfl⟩ := Nat.le.dest e
    exact iterA_stays h' d
/-- how many are alive -/
def cntB (l : List Bool) : Nat := (l.filter id).length
theorem cntB_lt : ∀ {l m : List Bool}, l.length = m.length → LeB l m → l ≠ m → cntB l < cntB m
  | [], [], _, _, h => absurd rfl h
  | [], _ :: _, h, _, _ => by simp at h
  | _ :: _, [], h, _, _ => by simp at h
  | x :: l, y :: m, hl, hle, hne => by
    have hx : x = true → y = true := fun h => by simpa [h] using hle 0
    have ht : LeB l m := fun i hi => by simpa using hle (i + 1) (by simpa using hi)
    have hl' : l.length = m.length := by simpa using hl
    by_cases hlm : l = m
    · subst hlm
      cases x <;> cases y <;> simp_all [cntB]
    · have := cntB_lt hl' ht hlm
      cases x <;> cases y <;> simp_all [cntB] <;> omega
theorem cntB_le (l : List Bool) : cntB l ≤ l.length := List.length_filter_le ..
def walkA (as : List (Nat × Nat)) : Nat → Nat → Nat → Prop
  | 0, x, y => x = y
  | k + 1, x, y => ∃ z, (x, z) ∈ as ∧ walkA as k z y
theorem walkA_snoc {as : List (Nat × Nat)} : ∀ {k x y z : Nat}, walkA as k x y → (y, z) ∈ as → walkA as (k + 1) x z
  | 0, _, _, _, h, e => by cases h; exact ⟨_, e, rfl⟩
  | _ + 1, _, _, _, ⟨w, h1, h2⟩, e => ⟨w, h1, walkA_snoc h2 e⟩
theorem walkA_init {as : List (Nat × Nat)} : ∀ {k x z : Nat}, walkA as (k + 1) x z → ∃ y, walkA as k x y ∧ (y, z) ∈ as
  | 0, x, z, ⟨w, h1, h2⟩ => by cases h2; exact ⟨x, rfl, h1⟩
  | k + 1, x, z, ⟨w, h1, h2⟩ => by
    obtain ⟨y, h3, h4⟩ := walkA_init h2
    exact ⟨y, ⟨w, h1, h3⟩, h4⟩
theorem walkA_less {as : List (Nat × Nat)} {k j x y : Nat} (h : walkA as (j + k) x y) : ∃ z, walkA as k x z := by
  induction j generalizing y with
  | zero => exact ⟨y, by rw [Nat.zero_add] at h; exact h⟩
  | succ j ih =>
    rw [show j + 1 + k = (j + k) + 1 by omega] at h
    obtain ⟨z, h1, _⟩ := walkA_init h
    exact ih h1
/-- alive at the k-th step: a walk of k arcs starts here -/
theorem iterA_walk {n : Nat} {as : List (Nat × Nat)} (ok : ∀ p ∈ as, p.1 < n ∧ p.2 < n) : ∀ k x, (iterA n as k).getD x false = true ↔ x < n ∧ ∃ y, walkA as k x y
  | 0, x => by
    show (List.replicate n true).getD x false = true ↔ _
    rw [List.getD_eq_getElem?_getD, List.getElem?_replicate]
    by_cases h : x < n
    · rw [if_pos h]; exact ⟨fun _ => ⟨h, x, rfl⟩, fun _ => rfl⟩
    · rw [if_neg h]; exact ⟨(fun z => by cases z), fun z => absurd z.1 h⟩
  | k + 1, x => by
    show (stepA n as (iterA n as k)).getD x false = true ↔ _
    by_cases h : x < n
    · rw [stepA_get h, firstA_isSome]
      constructor
      · rintro ⟨e, h1, h2⟩
        obtain ⟨_, y, h3⟩ := (iterA_walk ok k e).mp h2
        exact ⟨h, y, e, h1, h3⟩
      · rintro ⟨_, y, e, h1, h2⟩
        exact ⟨e, h1, (iterA_walk ok k e).mpr ⟨(ok _ h1).2, y, h2⟩⟩
    · rw [stepA_out h]; exact ⟨(fun z => by cases z), fun z => absurd z.1 h⟩
def nxtA (as : List (Nat × Nat)) (al : List Bool) (x : Nat) : Nat := match firstA as al x with | some k => (as.getD k (0, 0)).2 | none => x
def seqA (as : List (Nat × Nat)) (al : List Bool) (at0 : Nat) : Nat → Nat
  | 0 => at0
  | i + 1 => nxtA as al (seqA as al at0 i)
/-- what find_ring returns -/
def RingOut (n : Nat) (as : List (Nat × Nat)) (o : Option (List Nat)) : Prop := ∃ k, stepA n as (iterA n as k) = iterA n as k ∧ match o with
  | none => ∀ x, x < n → (iterA n as k).getD x false = false
  | some ks => ∃ at0, at0 < n ∧ (iterA n as k).getD at0 false = true ∧ (∀ y, y < at0 → (iterA n as k).getD y false = false) ∧ ∃ j m, j < m ∧ seqA as (iterA n as k) at0 m = seqA as (iterA n as k) at0 j ∧
      (∀ i i', i < i' → i' < m → seqA as (iterA n as k) at0 i ≠ seqA as (iterA n as k) at0 i') ∧ ks = (List.range' j (m - j)).map fun i => (firstA as (iterA n as k) (seqA as (iterA n as k) at0 i)).getD 0
theorem RingOut.one {n : Nat} {as : List (Nat × Nat)} {o o' : Option (List Nat)} (h : RingOut n as o) (h' : RingOut n as o') : o = o' := by
  obtain ⟨k, hk, h⟩ := h
  obtain ⟨k', hk', h'⟩ := h'
  have e := iterA_one hk' hk
  rw [e] at h'
  generalize iterA n as k = al at h h'
  cases o with
  | none => cases o' with
    | none => rfl
    | some ks =>
      obtain ⟨a, ha, ht, _⟩ := h'
      rw [h a ha] at ht; cases ht
  | some ks => cases o' with
    | none =>
      obtain ⟨a, ha, ht, _⟩ := h
      rw [h' a ha] at ht; cases ht
    | some ks' =>
      obtain ⟨a, ha, ht, hf, j, m, jm, hm, hd, rfl⟩ := h
      obtain ⟨a', ha', ht', hf', j', m', jm', hm', hd', rfl⟩ := h'
      have ea : a = a' := by
        rcases Nat.lt_trichotomy a a' with z | z | z
        · rw [hf' a z] at ht; cases ht
        · exact z
        · rw [hf a' z] at ht'; cases ht'
      subst ea
      have em : m = m' := by
        rcases Nat.lt_trichotomy m m' with z | z | z
        · exact absurd hm.symm (hd' j m jm z)
        · exact z
        · exact absurd hm'.symm (hd j' m' jm' z)
      subst em
      have ej : j = j' := by
        rcases Nat.lt_trichotomy j j' with z | z | z
        · exact absurd (hm.symm.trans hm') (hd j j' z jm')
        · exact z
        · exact absurd (hm'.symm.trans hm) (hd j' j z jm)
      subst ej
      rfl
/-- everything on the way is alive -/
theorem seqA_alive {n : Nat} {as : List (Nat × Nat)} {al : List Bool} (hk : stepA n as al = al) {at0 : Nat} (h : at0 < n) (ok : ∀ p ∈ as, p.1 < n ∧ p.2 < n) (ha : al.getD at0 false = true) : ∀ i, seqA as al at0 i < n ∧ al.getD (seqA as al at0 i) false = true ∧
    ∃ a, firstA as al (seqA as al at0 i) = some a ∧ as[a]? = some (seqA as al at0 i, seqA as al at0 (i + 1))
  | 0 => by
    have h1 : (firstA as al at0).isSome = true := by rw [← stepA_get h, hk]; exact ha
    obtain ⟨a, e⟩ := Option.isSome_iff_exists.mp h1
    obtain ⟨z, h2, h3⟩ := firstA_some e
    refine ⟨h, ha, a, e, ?_⟩
    show as[a]? = some (at0, nxtA as al at0)
    unfold nxtA
    rw [e, h2]
    show some (at0, z) = some (at0, (as.getD a (0, 0)).2)
    rw [List.getD_eq_getElem?_getD, h2]; rfl
  | i + 1 => by
    obtain ⟨h0, h1, a, e, h2⟩ := seqA_alive hk h ok ha i
    obtain ⟨z, h3, h4⟩ := firstA_some e
    rw [h2] at h3
    cases h3
    have hn : seqA as al at0 (i + 1) < n := (ok _ (List.mem_of_getElem? h2)).2
    have h5 : (firstA as al (seqA as al at0 (i + 1))).isSome = true := by rw [← stepA_get hn, hk]; exact h4
    obtain ⟨a', e'⟩ := Option.isSome_iff_exists.mp h5
    obtain ⟨z', h6, h7⟩ := firstA_some e'
    refine ⟨hn, h4, a', e', ?_⟩
    show as[a']? = some (_, nxtA as al (seqA as al at0 (i + 1)))
    unfold nxtA
    rw [e', h6]
    show some (_, z') = some (_, (as.getD a' (0, 0)).2)
    rw [List.getD_eq_getElem?_getD, h6]; rfl
/-- a ring of arcs, as the document says -/
structure IsRing (n : Nat) (as : List (Nat × Nat)) (ks : List Nat) : Prop where
  pos : 0 < ks.length
  into : ∀ k ∈ ks, k < as.length
  next : ∀ i, (h : i + 1 < ks.length) → (as.getD (ks[i]'(by omega)) (0, 0)).2 = (as.getD ks[i + 1] (0, 0)).1
  closes : (as.getD (ks.getD (ks.length - 1) 0) (0, 0)).2 = (as.getD (ks.getD 0 0) (0, 0)).1
  nodup : (ks.map fun k => (as.getD k (0, 0)).1).Nodup
theorem RingOut.ring {n : Nat} {as : List (Nat × Nat)} {ks : List Nat} (ok : ∀ p ∈ as, p.1 < n ∧ p.2 < n) (h : RingOut n as (some ks)) : IsRing n as ks ∧ ∀ k, ∃ x y, x < n ∧ walkA as k x y := by
  obtain ⟨k, hk, a, ha, ht, hf, j, m, jm, hm, hd, rfl⟩ := h
  have A := seqA_alive hk ha ok ht
  generalize hal : iterA n as k = al at *
  have hget : ∀ i, ∃ z, (firstA as al (seqA as al a i)).getD 0 = z ∧ z < as.length ∧ as.getD z (0, 0) = (seqA as al a i, seqA as al a (i + 1)) := fun i => by
    obtain ⟨_, _, z, e, h2⟩ := A i
    exact ⟨z, by rw [e]; rfl, (List.getElem?_eq_some_iff.mp h2).1, by rw [List.getD_eq_getElem?_getD, h2]; rfl⟩
  have hlen : ((List.range' j (m - j)).map fun i => (firstA as al (seqA as al a i)).getD 0).length = m - j := by rw [List.length_map, List.length_range']
  have hat : ∀ i, (h : i < m - j) → ((List.range' j (m - j)).map fun i => (firstA as al (seqA as al a i)).getD 0)[i]'(by rw [hlen]; exact h) = (firstA as al (seqA as al a (j + i))).getD 0 := fun i h => by
    rw [List.getElem_map, List.getElem_range']; simp
  refine ⟨⟨by rw [hlen]; omega, ?_, ?_, ?_, ?_⟩, ?_⟩
  · intro k hk
    obtain ⟨i, _, rfl⟩ := List.mem_map.mp hk
    obtain ⟨z, e, h1, _⟩ := hget i
    rw [e]; exact h1
  · intro i h
    rw [hlen] at h
    rw [hat i (by omega), hat (i + 1) h]
    obtain ⟨z, e, _, h2⟩ := hget (j + i)
    obtain ⟨z', e', _, h2'⟩ := hget (j + (i + 1))
    rw [e, e', h2, h2']; rfl
  · have gd : ∀ i, i < m - j → ((List.range' j (m - j)).map fun i => (firstA as al (seqA as al a i)).getD 0).getD i 0 = (firstA as al (seqA as al a (j + i))).getD 0 := fun i h => by
      rw [List.getD_eq_getElem?_getD, List.getElem?_eq_getElem (by rw [hlen]; exact h), Option.getD_some, hat i h]
    rw [hlen, gd (m - j - 1) (by omega), gd 0 (by omega)]
    obtain ⟨z, e, _, h2⟩ := hget (j + (m - j - 1))
    obtain ⟨z', e', _, h2'⟩ := hget (j + 0)
    rw [e, e', h2, h2', show j + (m - j - 1) + 1 = m by omega]
    exact hm
  · rw [List.map_map]
    refine List.Pairwise.map (R := fun x y => x < y ∧ y < m) _ ?_ ?_
    · intro x y h
      obtain ⟨z, e, _, h2⟩ := hget x
      obtain ⟨z', e', _, h2'⟩ := hget y
      show (as.getD ((firstA as al (seqA as al a x)).getD 0) (0, 0)).1 ≠ (as.getD ((firstA as al (seqA as al a y)).getD 0) (0, 0)).1
      rw [e, e', h2, h2']
      exact hd x y h.1 h.2
    · refine List.Pairwise.imp_of_mem ?_ List.pairwise_lt_range'
      intro x y hx hy hxy
      have := List.mem_range'_1.mp hy
      exact ⟨hxy, by omega⟩
  · intro i
    obtain ⟨_, h1, _⟩ := A 0
    have h2 : (iterA n as (k + i)).getD a false = true := by rw [iterA_stays (hal ▸ hk) i, hal]; exact ht
    obtain ⟨_, y, h3⟩ := (iterA_walk ok (k + i) a).mp h2
    rw [Nat.add_comm] at h3
    obtain ⟨z, h4⟩ := walkA_less (j := k) (k := i) (by rw [Nat.add_comm k i]; exact h3)
    exact ⟨a, z, ha, h4⟩
theorem RingOut.never {n : Nat} {as : List (Nat × Nat)} (ok : ∀ p ∈ as, p.1 < n ∧ p.2 < n) (h : RingOut n as none) : ∃ k, ∀ x y, x < n → ¬ walkA as k x y := by
  obtain ⟨k, hk, h⟩ := h
  refine ⟨k, fun x y hx w => ?_⟩
  have := (iterA_walk ok k x).mpr ⟨hx, y, w⟩
  rw [h x hx] at this
  cases this
end D0
namespace D0
open PySem PySem.Spec PyProof.Rows L2
def row2 (p : Nat × Nat) : List Int := [(p.1 : Int), (p.2 : Int)]
def optV : Option Nat → V
  | none => .non
  | some k => .int (k : Int)
def OkA (n : Nat) (as : List (Nat × Nat)) : Prop := ∀ p ∈ as, p.1 < n ∧ p.2 < n
def ArcsAt (H : Hp) (a : Addr) (as : List (Nat × Nat)) : Prop := ∃ vs, H a = some (.tup vs) ∧ RowsAt H vs (as.map row2)
theorem ArcsAt.ts {H H' : Hp} {a : Addr} {as : List (Nat × Nat)} (x : ArcsAt H a as) (t : TS H H') : ArcsAt H' a as := by
  obtain ⟨vs, e, r⟩ := x
  exact ⟨vs, t _ _ e, r.ts t⟩
theorem ArcsAt.same {H H' : Hp} {a : Addr} {as : List (Nat × Nat)} (x : ArcsAt H a as) (t : Same H H') : ArcsAt H' a as := x.ts (.of_same t)
theorem firstA_snoc (l : List (Nat × Nat)) (p : Nat × Nat) (al : List Bool) (x : Nat) : firstA (l ++ [p]) al x = (firstA l al x).or (if p.1 = x ∧ al.getD p.2 false = true then some l.length else none) := by
  unfold firstA
  rw [List.findIdx?_append]
  congr 1
  rw [List.findIdx?_cons]
  by_cases c : p.1 = x ∧ al.getD p.2 false = true
  · rw [if_pos c, if_pos (by rw [Bool.and_eq_true, decide_eq_true_eq]; exact c)]
    show Option.map _ (some 0) = _
    rw [Option.map_some, Nat.zero_add]
  · rw [if_neg c, if_neg (by rw [Bool.and_eq_true, decide_eq_true_eq]; exact c)]
    rfl
theorem onwA_len (n : Nat) (as : List (Nat × Nat)) (al : List Bool) : (onwA n as al).length = n := by unfold onwA; rw [List.length_map, List.length_range]
theorem onwA_get {n : Nat} {as : List (Nat × Nat)} {al : List Bool} {x : Nat} (h : x < n) : (onwA n as al)[x]? = some (firstA as al x) := by
  unfold onwA; rw [List.getElem?_map, List.getElem?_range h]; rfl
theorem onwA_snoc {n : Nat} {l : List (Nat × Nat)} {s e : Nat} {al : List Bool} (hs : s < n) : onwA n (l ++ [(s, e)]) al = if firstA l al s = none ∧ al.getD e false = true then (onwA n l al).set s (some l.length) else onwA n l al := by
  refine List.ext_getElem? fun i => ?_
  by_cases hi : i < n
  · rw [onwA_get hi, firstA_snoc]
    by_cases c : firstA l al s = none ∧ al.getD e false = true
    · rw [if_pos c, List.getElem?_set, onwA_len]
      by_cases h : s = i
      · subst h
        rw [if_pos rfl, if_pos hs, c.1, if_pos ⟨rfl, c.2⟩]; rfl
      · rw [if_neg h, onwA_get hi, if_neg (fun z => h z.1), Option.or_none]
    · rw [if_neg c, onwA_get hi]
      by_cases h : s = i ∧ al.getD e false = true
      · rw [if_pos h]
        obtain ⟨rfl, h2⟩ := h
        cases hf : firstA l al s with
        | none => exact absurd ⟨hf, h2⟩ c
        | some k => rfl
      · rw [if_neg h, Option.or_none]
  · rw [List.getElem?_eq_none (by rw [onwA_len]; omega), List.getElem?_eq_none]
    split
    · rw [List.length_set, onwA_len]; omega
    · rw [onwA_len]; omega
theorem onwA_nil (n : Nat) (al : List Bool) : onwA n [] al = List.replicate n none := by
  unfold onwA
  rw [show (firstA [] al) = fun _ => none from rfl, List.map_const', List.length_range]
theorem at_opt {l : List (Option Nat)} {x : Nat} {o : Option Nat} (h : l[x]? = some o) : atI (l.map optV) (x : Int) = some (optV o) := atI_nat (by rw [List.getElem?_map, h]; rfl)
theorem at_bl {al : List Bool} {x : Nat} (h : x < al.length) : atI (al.map V.bl) (x : Int) = some (.bl (al.getD x false)) := atI_nat (by
  rw [List.getElem?_map, List.getElem?_eq_getElem h, List.getD_eq_getElem?_getD, List.getElem?_eq_getElem h]; rfl)
theorem setm_opt (l : List (Option Nat)) (j k : Nat) : (l.map optV).set j (.int (k : Int)) = (l.set j (some k)).map optV := by rw [List.map_set]; rfl
theorem optV_some (o : Option Nat) : (!decide (optV o = V.non)) = o.isSome := by
  cases o with
  | none => rfl
  | some k => rfl
theorem step_list (n : Nat) (as : List (Nat × Nat)) (al : List Bool) : ((List.range ((onwA n as al).map optV).length).filter fun _ => true).map (fun i => V.bl (firstA as al i).isSome) = (stepA n as al).map V.bl := by
  rw [ftrue, List.length_map, onwA_len]
  unfold stepA onwA
  rw [List.map_map, List.map_map]
  rfl
theorem rd_whl {c : TT} {tb : L2.TS} {D : Ends} {σ : L2.St} {H : Hp} (W : Nat → L2.St → Hp → Prop) (m : Nat) (h0 : W m σ H)
    (hs : ∀ m σ H, W m σ H → c σ H fun b H1 => if b = true then ∃ N : L2.St → Hp → Prop, (∀ σ' H', N σ' H' → ∃ m', m' < m ∧ W m' σ' H') ∧ tb { D with nx := N, ct := N, bk := D.nx } σ H1 else D.nx σ H1) : tWhile c tb D σ H := ⟨W, ⟨m, h0⟩, hs⟩
theorem rv_notNany {x : V} {H : Hp} {Q : VK} (q : Q (.bl (!decide (x = .non))) H) : rNotN x .non H Q := ⟨rfl, q⟩
theorem rv_isNany {x : V} {H : Hp} {Q : VK} (q : Q (.bl (decide (x = .non))) H) : rIsN x .non H Q := ⟨rfl, q⟩
end D0
namespace D0
open PySem PySem.Spec PyProof.Rows L2
theorem pigeon : ∀ (n : Nat) (l : List Nat), l.Nodup → (∀ x ∈ l, x < n) → l.length ≤ n
  | 0, l, _, h => by
    cases l with
    | nil => exact Nat.le_refl _
    | cons x r => exact absurd (h x (List.mem_cons_self ..)) (by omega)
  | n + 1, l, hd, h => by
    have h2 := pigeon n (l.erase n) (hd.erase n) fun x hx => by
      have h3 := (hd.mem_erase_iff).mp hx
      have := h x h3.2
      have := h3.1
      omega
    by_cases hm : n ∈ l
    · rw [List.length_erase_of_mem hm] at h2; omega
    · rw [List.erase_of_not_mem hm] at h2; omega
theorem pigeon_fn {n m : Nat} (f : Nat → Nat) (hd : ∀ i i', i < i' → i' < m → f i ≠ f i') (h : ∀ i, i < m → f i < n) : m ≤ n := by
  have := pigeon n ((List.range m).map f) (by
    refine List.Pairwise.map (R := fun x y => x < y ∧ y < m) _ (fun x y h => hd x y h.1 h.2) ?_
    refine List.Pairwise.imp_of_mem ?_ List.pairwise_lt_range
    intro x y _ hy hxy
    exact ⟨hxy, List.mem_range.mp hy⟩) (fun x hx => by
    obtain ⟨i, hi, rfl⟩ := List.mem_map.mp hx
    exact h i (List.mem_range.mp hi))
  rwa [List.length_map, List.length_range] at this
theorem drop_range_map {α : Type} (f : Nat → α) (m j : Nat) (h : j ≤ m) : ((List.range m).map f).drop j = (List.range' j (m - j)).map f := by
  refine List.ext_getElem (by simp) fun i h1 h2 => ?_
  rw [List.getElem_drop, List.getElem_map, List.getElem_map, List.getElem_range, List.getElem_range']
  congr 1
  omega
def RingV (H : Hp) (v : V) : Option (List Nat) → Prop
  | none => v = .non
  | some ks => ∃ p, v = .ref p ∧ H p = some (.tup (ks.map fun k : Nat => V.int (k : Int)))
theorem RingV.same {H H' : Hp} {v : V} {o : Option (List Nat)} (h : RingV H v o) (s : Same H H') : RingV H' v o := by
  cases o with
  | none => exact h
  | some ks =>
    obtain ⟨p, e, e2⟩ := h
    exact ⟨p, e, s _ _ e2⟩
end D0
namespace D0
open PySem PySem.Spec PyProof.Rows L2
theorem inV_ints (x : Int) : ∀ l : List Int, inV (.int x) (l.map V.int) = decide (x ∈ l)
  | [] => rfl
  | y :: l => by
    show ((y == x) || inV (.int x) (l.map V.int)) = _
    rw [inV_ints x l]
    by_cases h : y = x
    · subst h; simp
    · have h' : ¬ x = y := fun e => h e.symm
      simp [h, h']
theorem flat_ints : ∀ l : List Int, (l.map V.int).all flatV = true
  | [] => rfl
  | _ :: l => flat_ints l
def natsV (l : List Nat) : List V := l.map fun k : Nat => V.int (k : Int)
theorem natsV_eq (l : List Nat) : natsV l = (l.map fun k : Nat => (k : Int)).map V.int := by unfold natsV; rw [List.map_map]; rfl
theorem natsV_len (l : List Nat) : (natsV l).length = l.length := by unfold natsV; rw [List.length_map]
theorem natsV_get (l : List Nat) (i : Nat) : (natsV l)[i]? = l[i]?.map fun k : Nat => V.int (k : Int) := by unfold natsV; rw [List.getElem?_map]
theorem at_nats {l : List Nat} {i x : Nat} (h : l[i]? = some x) : atI (natsV l) (i : Int) = some (.int (x : Int)) := atI_nat (by rw [natsV_get, h]; rfl)
theorem mem_cast {x : Nat} {l : List Nat} : ((x : Int) ∈ l.map fun k : Nat => (k : Int)) ↔ x ∈ l := by
  rw [List.mem_map]
  exact ⟨fun ⟨y, h, e⟩ => by rw [show x = y by omega]; exact h, fun h => ⟨x, h, rfl⟩⟩
section
variable {K : PySem.W.Frag} {H : Hp} {Q : VK} {σ : L2.St} {ta : TE}
theorem rv_inI {p : Addr} {l : List Int} {x : Int} (h : SqL K H p (l.map V.int)) (q : Q (.bl (decide (x ∈ l))) H) : rInD K false (.int x) (.ref p) H Q := rv_inL h rfl (flat_ints l) (by rw [inV_ints]; exact q)
theorem rv_inN {p : Addr} {l : List Nat} {x : Nat} (h : SqL K H p (natsV l)) (q : Q (.bl (decide (x ∈ l))) H) : rInD K false (.int (x : Int)) (.ref p) H Q := by
  rw [natsV_eq] at h
  refine rv_inI h ?_
  rw [decide_eq_decide.mpr (mem_cast (x := x) (l := l))]
  exact q
theorem rd_lenSet (q : ta σ H fun x H1 => ∃ (l : Addr) (ns : List Int), x = .ref l ∧ SqL K H1 l (ns.map V.int) ∧ ns.Nodup ∧ ns.length ≤ 4000 ∧ Q (.int (ns.length : Nat)) H1) : RZ.tLenSetI K ta σ H Q := q
theorem dLenSet {X : Cx} (K : PySem.W.Frag) {a : Expr} {ta : TE} {p p2 q pos : Pos} (hg : Gl X "len") (hm : X.mg "len" = none) (hg2 : Gl X "set") (hm2 : X.mg "set" = none) (ha : PE X a ta) (hc : X.calm = true := by rfl) (hK : X.K = K := by rfl)
    (na : starEach [a] X.env = (false, eval a X.env) :: starEach [] X.env := by rfl) : PE X (.Call (.Name "len" p) [.Call (.Name "set" p2) [a] [] q] [] pos) (RZ.tLenSetI K ta) := by subst hK; exact RZ.pe_lenSetI hg hm hg2 hm2 ha hc na
theorem dCatA {X : Cx} (K : PySem.W.Frag) (hK : X.K = K := by rfl) : OpR X (binaryOp .Add) (rCatA K) := by subst hK; exact op_catA
theorem rv_catA {a b : Addr} {xs ys : List V} (ha : H a = some (.tup xs)) (hb : H b = some (.tup ys)) (hz : xs.length + ys.length ≤ sizeLine) (q : ∀ p H', Same H H' → H' p = some (.tup (xs ++ ys)) → Q (.ref p) H') : rCatA K (.ref a) (.ref b) H Q := by
  refine ⟨a, b, xs, ys, rfl, rfl, SqT.of ha, SqT.of hb, hz, fun e => ?_, fun _ e => ?_, fun _ _ p hp => q p _ (same_upd hp) upd_same⟩
  · subst e; exact q b H (fun _ _ e => e) hb
  · subst e; exact q a H (fun _ _ e => e) (by rw [List.append_nil]; exact ha)
end
/-- a shuffled range, in Nat -/
theorem nats_perm {ms : List V} {l : List Nat} (p : ms.Perm (natsV l)) : ∃ l' : List Nat, ms = natsV l' ∧ l'.Perm l := by
  obtain ⟨ss, h, q⟩ := Paired.perm (F := fun v (x : Nat) => v = V.int (x : Int)) p (paired_map (β := Nat) (fun x : Nat => V.int (x : Int)) (fun _ => rfl) l)
  exact ⟨ss, Paired.fn (fun x : Nat => V.int (x : Int)) h, q⟩
theorem rg_nats (n : Nat) : rgV 0 (n : Int) = natsV (List.range n) := by rw [rg_ints, natsV_eq]
theorem filter_len_eq {α : Type} (p : α → Bool) : ∀ l : List α, (l.filter p).length = l.length → l.filter p = l
  | [], _ => rfl
  | x :: l, h => by
    rw [List.filter_cons] at h ⊢
    by_cases hx : p x = true
    · rw [if_pos hx] at h ⊢
      rw [filter_len_eq p l (by simpa using h)]
    · rw [if_neg hx] at h
      have := List.length_filter_le p l
      simp at h
      omega
/-- filtering the turns and taking the items is filtering the items -/
theorem range_filter_map {α β : Type} (l : List α) (d : α) (kp : α → Bool) (f : α → β) : ((List.range l.length).filter fun i => kp (l.getD i d)).map (fun i => f (l.getD i d)) = (l.filter kp).map f := by
  have e : l = (List.range l.length).map fun i => l.getD i d := by
    refine List.ext_getElem (by simp) fun i h1 h2 => ?_
    rw [List.getElem_map, List.getElem_range, List.getD_eq_getElem?_getD, List.getElem?_eq_getElem h1]; rfl
  conv => rhs; rw [e]
  rw [List.filter_map, List.map_map]
  rfl
end D0
namespace D0
open PySem PySem.Spec PyProof.Rows L2
theorem Paired.set {α β : Type} {F : α → β → Prop} : ∀ {l : List α} {m : List β} {x : α} {y : β} (i : Nat), Paired F l m → F x y → Paired F (l.set i x) (m.set i y)
  | _, _, _, _, _, .nil, _ => .nil
  | _, _, _, _, 0, .cons _ t, h => .cons h t
  | _, _, _, _, i + 1, .cons h0 t, h => .cons h0 (Paired.set i t h)
theorem Paired.erase {α β : Type} {F : α → β → Prop} : ∀ {l : List α} {m : List β} (i : Nat), Paired F l m → Paired F (l.eraseIdx i) (m.eraseIdx i)
  | _, _, _, .nil => .nil
  | _, _, 0, .cons _ t => t
  | _, _, i + 1, .cons h0 t => .cons h0 (Paired.erase i t)
theorem Paired.drop {α β : Type} {F : α → β → Prop} : ∀ {l : List α} {m : List β} (i : Nat), Paired F l m → Paired F (l.drop i) (m.drop i)
  | _, _, 0, h => h
  | _, _, _ + 1, .nil => .nil
  | _, _, i + 1, .cons _ t => Paired.drop i t
theorem map_eraseIdx {α β : Type} (f : α → β) : ∀ (l : List α) (i : Nat), (l.map f).eraseIdx i = (l.eraseIdx i).map f
  | [], _ => rfl
  | _ :: _, 0 => rfl
  | x :: l, i + 1 => by
    show f x :: (l.map f).eraseIdx i = f x :: (l.eraseIdx i).map f
    rw [map_eraseIdx f l i]
theorem mem_eraseIdx' {α : Type} : ∀ (l : List α) (i : Nat) (x : α), x ∈ l.eraseIdx i → x ∈ l
  | [], _, _, h => h
  | _ :: _, 0, _, h => List.mem_cons_of_mem _ h
  | y :: l, i + 1, x, h => by
    rcases List.mem_cons.mp (show x ∈ y :: l.eraseIdx i from h) with h | h
    · rw [h]; exact List.mem_cons_self ..
    · exact List.mem_cons_of_mem _ (mem_eraseIdx' l i x h)
end D0
namespace D0
open PySem PySem.Spec PyProof.Rows L2
section
variable {X : Cx} {CX : CXT} {n : Nat} {C f : Addr} {fd : FuncData} {ps : List Str} {sp : Sp} {E : XK}
theorem run_own {pins : List (Addr × Obj)} {σ : L2.St} {H : Hp} {s : Shared} {A : Around} {Q : VK} {us : List Value} {vs : List V} (F : FnOk X.prog X.w X.K X.mg X.base CX n f fd ps sp) (hb : Binds X.K fd ps []) (hx : Passes CX X E) (sb : L2.Sub X n A)
    (I : Inv X pins σ H s) (r2 : Vals vs us) (h : sp vs H Q E) : wpAny (model X.prog X.w) A (call (.ref f) us) (fun v s' => v ≠ .notImplemented ∧ EP X pins σ Q v s') X.xe s := by
  have e0 : Env0 X.prog X.w X.K X.mg X.base A X.stack s H := by
    have e := I.env0
    exact ⟨by rw [sb.fr]; exact e.frames, e.mod, e.bs, e.bsz, e.funs, e.frf, e.hok, e.bare⟩
  have hl := F.len _ _ _ _ h
  have hlu : us.length = ps.length := by rw [← r2.length]; exact hl
  refine wpAny_call (codeAny_mono (F.run A X.stack s H ⟨us, []⟩ us vs Q E sb.room e0 (by
    have := hb s us I.kIn (by simpa using hlu)
    simpa using this) r2 h) fun r s' hq => ?_)
  cases r with
  | error e => exact hx pins σ H s e s' I hq
  | ok fl =>
    cases fl with
    | ret w =>
      obtain ⟨z, H', I', rz, q⟩ := I.after hq
      refine ⟨?_, z, H', I', rz, q⟩
      intro e
      subst e
      cases z with
      | non => cases rz
      | bl b => cases rz
      | int i => obtain ⟨t, ht⟩ := rz; cases ht
      | str i => obtain ⟨t, ht⟩ := rz; cases ht
      | byt i => obtain ⟨t, ht⟩ := rz; cases ht
      | flt i => obtain ⟨t, ht⟩ := rz; cases ht
      | ref a => cases rz
      | ty t => cases rz
    | next => exact False.elim hq
    | brk => exact False.elim hq
    | cont => exact False.elim hq
theorem rr (a : Addr) : RelV (V.ref a) (Value.ref a) := rfl
theorem not_ni {pins : List (Addr × Obj)} {σ : L2.St} {Q : VK} {v : Value} {s' : Shared} (h : v ≠ .notImplemented ∧ EP X pins σ Q v s') : PySem.W.CmpBack (EP X pins σ Q) v s' := by
  cases v <;> first | exact h.2 | exact absurd rfl h.1
/-- o op y, o an instance of the class at C with such a method -/
def rOwn (C : Addr) (sp : Sp) (E : XK) : R2 := fun x y H Q => (∃ a dx fs, x = .ref a ∧ H a = some (.ins C dx fs)) ∧ sp [x, y] H Q E
/-- both are instances of C -/
def rOwn2 (C : Addr) (sp : Sp) (E : XK) : R2 := fun x y H Q => (∃ a dx fs b dy gs, x = .ref a ∧ H a = some (.ins C dx fs) ∧ y = .ref b ∧ H b = some (.ins C dy gs)) ∧ sp [x, y] H Q E
def rOwnSet (C : Addr) (sp : Sp) (E : XK) : TSet := fun o i v H Q => (∃ a dx fs, o = .ref a ∧ H a = some (.ins C dx fs)) ∧ sp [o, i, v] H (fun _ H' => Q H') E
/-- what is asked of the class for the method at f -/
structure Own (K : PySem.W.Frag) (C : Addr) (m : Str) (f : Addr) : Prop where
  at_ : PySem.W.findIn K (.ref C) m = some (some (.ref f))
  fn : PySem.W.isFn K (.ref f) = true
  fi : PySem.W.fnIn K f = true
  no : PySem.W.noSeq K C = true
  sf : PySem.W.selfFirst K C = true
theorem pe_ownIx {o i : Expr} {pos : Pos} {to ti : TE} (F : FnOk X.prog X.w X.K X.mg X.base CX n f fd ps sp) (hr : Room (n + 1) X.A) (hb : Binds X.K fd ps []) (hx : Passes CX X E) (O : Own X.K C "__getitem__" f) (ho : PE X o to) (hi : PE X i ti)
    (hsl : ∀ x i', subscripted i true (.ref x) i' = runValue (.builtin "lifetime.subscript" ⟨[.ref x, i'], []⟩) := by intro _ _; with_unfolding_all rfl) : PE X (.Subscript o i pos) (tOp (rOwn C sp E) to ti) := by
  refine ⟨fun pins s σ H Q I h => ?_⟩
  refine Subscript_ (binT ho hi I h fun v u s2 x y H2 I2 rx ry q => ?_)
  obtain ⟨⟨a, dx, fs, rfl, ea⟩, q⟩ := q
  obtain rfl : v = Value.ref a := rx
  obtain ⟨mA, J, _⟩ := ins_get I2.hok ea
  obtain ⟨od, J, _⟩ := J.look
  obtain ⟨m, hF⟩ := I2.fr
  refine PySem.W.sub_K hF I2.ok.mod.kin J O.at_ O.fi O.fn ?_ (hsl a u)
  exact wpAny_mono (run_own F hb hx ⟨hr.in1, rfl⟩ I2 (.cons (rr a) (.cons ry .nil)) q) (fun _ _ z => z.2) fun _ _ z => z
theorem set_own (F : FnOk X.prog X.w X.K X.mg X.base CX n f fd ps sp) (hr : Room n X.A) (hb : Binds X.K fd ps []) (hx : Passes CX X E) (O : Own X.K C "__setitem__" f) : PSet X (rOwnSet C sp E) := by
  intro pins s σ H o i v ov iv u Q I ro ri rv h
  obtain ⟨⟨a, dx, fs, rfl, ea⟩, q⟩ := h
  obtain rfl : ov = Value.ref a := ro
  obtain ⟨mA, J, _⟩ := ins_get I.hok ea
  obtain ⟨od, J, _⟩ := J.look
  obtain ⟨m, hF⟩ := I.fr
  refine PySem.W.ksp_setItem hF I.ok.mod.kin J O.no O.at_ O.fn ?_
  exact wpAny_mono (run_own F hb hx ⟨hr, rfl⟩ I (.cons (rr a) (.cons ri (.cons rv .nil))) q) (fun _ _ ⟨_, z, H', I', _, q⟩ => ⟨H', I', q⟩) fun _ _ z => z
theorem op_own {op : Operator} (F : FnOk X.prog X.w X.K X.mg X.base CX n f fd ps sp) (hr : Room n X.A) (hb : Binds X.K fd ps []) (hx : Passes CX X E) (O : Own X.K C (PySem.dunder op.info.2) f) : OpR X (binaryOp op) (rOwn2 C sp E) := by
  intro pins s σ H x y v u Q I rx ry h
  obtain ⟨⟨a, dx, fs, b, dy, gs, rfl, ea, rfl, eb⟩, q⟩ := h
  obtain rfl : v = Value.ref a := rx
  obtain rfl : u = Value.ref b := ry
  obtain ⟨mA, J, _⟩ := ins_get I.hok ea
  obtain ⟨mB, J', _⟩ := ins_get I.hok eb
  obtain ⟨od, J, _⟩ := J.look
  obtain ⟨od', J', _⟩ := J'.look
  obtain ⟨m, hF⟩ := I.fr
  refine PySem.W.binop_K hF I.ok.mod.kin J J'.type O.sf O.at_ O.fn ?_
  exact wpAny_mono (run_own F hb hx ⟨hr, rfl⟩ I (.cons (rr a) (.cons (rr b) .nil)) q) (fun _ _ z => not_ni z) fun _ _ z => z
theorem ip_own {op : Operator} (F : FnOk X.prog X.w X.K X.mg X.base CX n f fd ps sp) (hr : Room n X.A) (hb : Binds X.K fd ps []) (hx : Passes CX X E) (O : Own X.K C (dunderI op.info.2) f) : InOp X op (rOwn C sp E) := by
  intro pins s σ H x y v u Q I rx ry h
  obtain ⟨⟨a, dx, fs, rfl, ea⟩, q⟩ := h
  obtain rfl : v = Value.ref a := rx
  obtain ⟨mA, J, _⟩ := ins_get I.hok ea
  obtain ⟨od, J, _⟩ := J.look
  obtain ⟨m, hF⟩ := I.fr
  refine PySem.W.ksp_inplace hF I.ok.mod.kin J O.sf O.at_ O.fn ?_
  exact wpAny_mono (run_own F hb hx ⟨hr, rfl⟩ I (.cons (rr a) (.cons ry .nil)) q) (fun _ _ z => not_ni z) fun _ _ z => z
/-- C.m is a staticmethod: its record at p, its def at g -/
structure SMet (K : PySem.W.Frag) (C : Addr) (mc : Value) (m : Str) (p g : Addr) : Prop where
  rd : PySem.W.readsIn K C mc = true
  ga : PySem.W.specialIn K (.ref C) "__getattribute__" = some (some (.builtin "type.__getattribute__"))
  at_ : PySem.W.findCls K (.ref C) mc m = some (.get (.builtin "staticmethod.__get__") (.ref p) .none (.ref C))
  rc : ∃ rest, PySem.W.recIn K p "staticmethod" = some (.ref g :: rest)
  kp : PySem.W.keepIn K (.ref g) = true
def tStat (C : Addr) (sp : Sp) (E : XK) (ta : TE) (t : TA) : TE := fun σ H Q => ta σ H fun x H1 => x = .ref C ∧ t σ H1 fun vs H2 => sp vs H2 Q E
theorem getstat_ok {pins : List (Addr × Obj)} {σ : L2.St} {H : Hp} {s : Shared} {mc : Value} {m : Str} {p g : Addr} {A : Around} {E : Value → Shared → Prop} {pl : Sem Bool} {Q : Value × List Value → Shared → Prop} (I : Inv X pins σ H s) (k : SMet X.K C mc m p g)
    (h : ∀ s', Inv X pins σ H s' → Q (.ref g, []) s') : wpAny (model X.prog X.w) A (getMethod (.ref C) m pl) Q E s := by
  obtain ⟨rest, hp⟩ := k.rc
  refine PySem.W.method_cls I.kIn k.ga (PySem.W.cls_bind I.kIn k.rd k.at_ ?_)
  refine wpAny_call (PySem.W.sm_get (s := { s with toks := s.toks + 1 }) I.kIn hp (PySem.W.handed_on rfl ?_))
  exact h _ (I.tok _)
theorem pe_stat {mc : Value} {p g : Addr} {m : Str} {o e : Expr} {es : List Expr} {pos apos : Pos} {ta : TE} {t : TA} {pl : Sem Bool} (he : PE X o ta) (k : SMet X.K C mc m p g) (F : FnOk X.prog X.w X.K X.mg X.base CX n g fd ps sp) (hr : Room n X.A) (hb : Binds X.K fd ps []) (hx : Passes CX X E) (ha : PA X (e :: es) t)
    (hst : starEach (e :: es) X.env = (false, eval e X.env) :: starEach es X.env := by rfl) (hpl : (backTo pos (starEach es X.env)).any (·.1) = false := by rfl)
    (ht : eval (.Call (.Attribute o m apos) (e :: es) [] pos) X.env = (do
      let ov ← eval o X.env
      standAt apos.atName
      let (f, first) ← holding [ov] (getMethod ov m pl)
      callWith pos f first (backTo pos (starEach (e :: es) X.env)) (backToKw pos (keywordEach [] X.env))) := by rfl) :
    PE X (.Call (.Attribute o m apos) (e :: es) [] pos) (tStat C sp E ta t) := by
  refine ⟨fun pins s σ H Q I h => ?_⟩
  refine PySem.W.methodCall_KW (pl := pl) (thn (he.run pins s σ H _ I h) fun u s1 ⟨x, H1, I1, rx, ex, q⟩ => ?_) ht
  subst ex
  obtain rfl : u = Value.ref C := rx
  refine getstat_ok I1 k fun s2 I2 => ?_
  refine PySem.W.callWith_K (h₀ := X.base) I2.ok.mod.kin k.kp (thn (ha.run pos pins s2 σ H1 _ I2 q) fun us s3 ⟨vs, H2, I3, r, q⟩ => ⟨I3.kIn, ?_⟩) hst hpl
  exact wpAny_mono (run_own F hb hx ⟨hr, rfl⟩ I3 r q) (fun _ _ z => z.2) fun _ _ z => z
end
end D0
namespace D0
open PySem PySem.Spec PyProof.Rows L2
structure TabAt (H : Hp) (t : Addr) (rs : List Addr) (tab : List (List Int)) : Prop where
  tb : H t = some (.lst (rs.map V.ref))
  rw : Paired (fun r row => H r = some (.lst (row.map V.int))) rs tab
theorem TabAt.same {H H' : Hp} {t : Addr} {rs : List Addr} {tab : List (List Int)} (x : TabAt H t rs tab) (s : Same H H') : TabAt H' t rs tab := ⟨s _ _ x.tb, Paired.mapP x.rw fun _ _ h => s _ _ h⟩
theorem TabAt.offs {S : List Addr} {H H' : Hp} {t : Addr} {rs : List Addr} {tab : List (List Int)} (x : TabAt H t rs tab) (f : OffS S H H') (ht : t ∉ S) (hr : ∀ r ∈ rs, r ∉ S) : TabAt H' t rs tab := by
  refine ⟨f _ _ ht x.tb, ?_⟩
  refine Paired.of_get (Paired.len x.rw) fun i r row h1 h2 => ?_
  obtain ⟨row', e, h⟩ := Paired.get1 x.rw h1
  rw [h2] at e; cases e
  exact f _ _ (hr r (List.mem_of_getElem? h1)) h
theorem TabAt.len {H : Hp} {t : Addr} {rs : List Addr} {tab : List (List Int)} (x : TabAt H t rs tab) : rs.length = tab.length := Paired.len x.rw
theorem TabAt.get {H : Hp} {t : Addr} {rs : List Addr} {tab : List (List Int)} {i : Nat} {row : List Int} (x : TabAt H t rs tab) (h : tab[i]? = some row) : ∃ r, rs[i]? = some r ∧ H r = some (.lst (row.map V.int)) ∧ atI (rs.map V.ref) (i : Int) = some (.ref r) := by
  obtain ⟨r, e, h2⟩ := Paired.get2 x.rw h
  exact ⟨r, e, h2, atI_nat (by rw [List.getElem?_map, e]; rfl)⟩
/-- one row is another one now -/
theorem TabAt.put {H : Hp} {t : Addr} {rs : List Addr} {tab : List (List Int)} {i : Nat} {r : Addr} (x : TabAt H t rs tab) (nd : rs.Nodup) (nt : t ∉ rs) (h : rs[i]? = some r) (row : List Int) : TabAt (upd H r (.lst (row.map V.int))) t rs (tab.set i row) := by
  have hr := List.mem_of_getElem? h
  refine ⟨hp_set (fun e => nt (e ▸ hr)) x.tb, ?_⟩
  refine Paired.of_get (by rw [List.length_set]; exact x.len) fun j r' row' h1 h2 => ?_
  rw [List.getElem?_set] at h2
  by_cases hij : i = j
  · subst hij
    rw [h] at h1; cases h1
    rw [if_pos rfl] at h2
    split at h2
    · cases h2; exact upd_same
    · cases h2
  · rw [if_neg hij] at h2
    have ne : r' ≠ r := fun e => hij (by
      subst e
      have hi := (List.getElem?_eq_some_iff.mp h)
      have hj := (List.getElem?_eq_some_iff.mp h1)
      obtain ⟨hi1, hi2⟩ := hi
      obtain ⟨hj1, hj2⟩ := hj
      exact (List.getElem_inj nd).mp (hi2.trans hj2.symm))
    obtain ⟨row2, e2, h3⟩ := Paired.get1 x.rw h1
    rw [h2] at e2; cases e2
    exact hp_set ne h3
def cF (n : Int) (t : Addr) : List (Str × V) := putF "_table" (.ref t) (putF "size" (.int n) [])
theorem kST : ¬ (("size" : Str) = "_table") := by decide +kernel
theorem cF_eq (n : Int) (t : Addr) : cF n t = ([("size", V.int n), ("_table", V.ref t)] : List (Str × V)) := by
  show (if ("size" : Str) = "_table" then [(("size" : Str), V.ref t)] else (("size" : Str), V.int n) :: putF "_table" (V.ref t) []) = ([("size", V.int n), ("_table", V.ref t)] : List (Str × V))
  rw [if_neg kST]
  all_goals rfl
theorem cF_size (n : Int) (t : Addr) : (cF n t).lookup ("size" : Str) = some (.int n) := by
  unfold cF
  rw [lookup_putF, if_neg kST, lookup_putF, if_pos rfl]
theorem cF_table (n : Int) (t : Addr) : (cF n t).lookup ("_table" : Str) = some (.ref t) := by
  unfold cF
  rw [lookup_putF, if_pos rfl]
theorem cF_no (n : Int) (t : Addr) {m : Str} (h1 : ¬ m = "_table") (h2 : ¬ m = "size") : (cF n t).lookup m = none := by
  unfold cF
  rw [lookup_putF, if_neg h1, lookup_putF, if_neg h2]
  all_goals rfl
theorem cF_put (n : Int) (t t' : Addr) : putF "_table" (.ref t') (cF n t) = cF n t' := by
  rw [cF_eq, cF_eq]
  show (if ("size" : Str) = "_table" then _ else (("size" : Str), V.int n) :: (if ("_table" : Str) = "_table" then [(("_table" : Str), V.ref t')] else _)) = ([("size", V.int n), ("_table", V.ref t')] : List (Str × V))
  rw [if_neg kST, if_pos rfl]
theorem cF_len (n : Int) (t : Addr) : (cF n t).length < 1000 := by rw [cF_eq]; show 2 < 1000; decide
structure CostsAt (C : Addr) (H : Hp) (a : Addr) (n : Nat) (t : Addr) (rs : List Addr) (tab : List (List Int)) : Prop where
  ob : ∃ dx, H a = some (.ins C dx (cF n t))
  tb : TabAt H t rs tab
  sz : tab.length = n
  sq : ∀ row ∈ tab, row.length = n
  nd : rs.Nodup
  nt : t ∉ rs
theorem CostsAt.same {C : Addr} {H H' : Hp} {a : Addr} {n : Nat} {t : Addr} {rs : List Addr} {tab : List (List Int)} (x : CostsAt C H a n t rs tab) (s : Same H H') : CostsAt C H' a n t rs tab := by
  obtain ⟨dx, e⟩ := x.ob
  exact ⟨⟨dx, s _ _ e⟩, x.tb.same s, x.sz, x.sq, x.nd, x.nt⟩
theorem CostsAt.offs {C : Addr} {S : List Addr} {H H' : Hp} {a : Addr} {n : Nat} {t : Addr} {rs : List Addr} {tab : List (List Int)} (x : CostsAt C H a n t rs tab) (f : OffS S H H') (ha : a ∉ S) (ht : t ∉ S) (hr : ∀ r ∈ rs, r ∉ S) : CostsAt C H' a n t rs tab := by
  obtain ⟨dx, e⟩ := x.ob
  exact ⟨⟨dx, f _ _ ha e⟩, x.tb.offs f ht hr, x.sz, x.sq, x.nd, x.nt⟩
/-- the cost of (a, b) -/
def gT (tab : List (List Int)) (a b : Nat) : Int := (tab.getD a []).getD b 0
theorem gT_row {tab : List (List Int)} {a : Nat} {row : List Int} (h : tab[a]? = some row) (b : Nat) : gT tab a b = row.getD b 0 := by
  unfold gT
  rw [List.getD_eq_getElem?_getD (l := tab), h]; rfl
/-- a table by its costs -/
def mkT (n : Nat) (f : Nat → Nat → Int) : List (List Int) := (List.range n).map fun a => (List.range n).map fun b => f a b
theorem mkT_len (n : Nat) (f : Nat → Nat → Int) : (mkT n f).length = n := by unfold mkT; rw [List.length_map, List.length_range]
theorem mkT_sq (n : Nat) (f : Nat → Nat → Int) : ∀ row ∈ mkT n f, row.length = n := by
  intro row h
  obtain ⟨a, _, rfl⟩ := List.mem_map.mp h
  rw [List.length_map, List.length_range]
theorem mkT_get {n a : Nat} (f : Nat → Nat → Int) (h : a < n) : (mkT n f)[a]? = some ((List.range n).map fun b => f a b) := by
  unfold mkT; rw [List.getElem?_map, List.getElem?_range h]; rfl
theorem gT_mk {n a b : Nat} (f : Nat → Nat → Int) (ha : a < n) (hb : b < n) : gT (mkT n f) a b = f a b := by
  rw [gT_row (mkT_get f ha), List.getD_eq_getElem?_getD, List.getElem?_map, List.getElem?_range hb]; rfl
theorem tab_eta {n : Nat} {tab : List (List Int)} (h1 : tab.length = n) (h2 : ∀ row ∈ tab, row.length = n) : tab = mkT n (gT tab) := by
  refine List.ext_getElem (by rw [mkT_len]; exact h1) fun a ha hb => ?_
  have hr := h2 _ (List.getElem_mem ha)
  have hg : tab[a]? = some tab[a] := List.getElem?_eq_getElem ha
  have e : (mkT n (gT tab))[a] = (List.range n).map fun b => gT tab a b := by
    have := mkT_get (gT tab) (show a < n by omega)
    rw [List.getElem?_eq_getElem hb] at this
    exact Option.some.inj this
  rw [e]
  refine List.ext_getElem (by rw [List.length_map, List.length_range]; exact hr) fun b h3 h4 => ?_
  rw [List.getElem_map, List.getElem_range, gT_row hg, List.getD_eq_getElem?_getD, List.getElem?_eq_getElem h3]; rfl
section
variable {K : PySem.W.Frag} {σ : L2.St} {H : Hp} {Q : VK} {te tl : TE} {ta : TA} {vs : List Nat} {j : Nat} {g : TG} {tt : TT}
def iEnumA (K : PySem.W.Frag) (ta : TA) : TI := fun σ H R => iEnum K ta σ H R ∨ iEnumT K ta σ H R
theorem dpi_enumA {X : Cx} (K : PySem.W.Frag) {e : Expr} {ta : TA} {p pos tpos : Pos} {elts : List Expr} {kk : Nat} (hg : Gl X "enumerate") (hm : X.mg "enumerate" = none) (ha : PA X [e] ta) (hK : X.K = K := by rfl) (hs : starEach [e] X.env = [(false, eval e X.env)] := by rfl) :
    PI X (.Tuple elts kk tpos) (.Call (.Name "enumerate" p) [e] [] pos) (iEnumA K ta) := by
  have h1 := dpi_enumT (X := X) K (tpos := tpos) (elts := elts) (kk := kk) (p := p) (pos := pos) hg hm ha hK hs
  subst hK
  have h2 := pi_enum (X := X) (tpos := tpos) (elts := elts) (kk := kk) (p := p) (pos := pos) hg hm ha hs
  exact ⟨fun pins s σ H R I h => h.elim (h2.run pins s σ H R I) (h1.run pins s σ H R I)⟩
/-- a comprehension of new lists of whole numbers: the i-th one is f i -/
theorem lc_fresh {J : It} {n : Nat} {G : Hp → Prop} {Y : Nat → Hp → V → Hp → Prop} (w : Walk J n G Y) (f : Nat → List Int) (hn : n ≤ 100000)
    (hG : ∀ H', Same H H' → G H') (hY : ∀ i H' x H2, Y i H' x H2 → Same H' H2)
    (he : ∀ (i : Nat) (x : V) (H' H2 : Hp) (Nx : VK) (E : Hp → Prop), i < n → Same H H' → Same H' H2 → Y i H' x H2 → (∀ r H'', Same H2 H'' → H2 r = none → H'' r = some (.lst ((f i).map V.int)) → Nx (.ref r) H'') →
      g x (wipe σ vs) H2 fun σ2 H3 => wipe σ2 vs = wipe σ vs ∧ tt σ2 H3 fun b H4 => if b = true then te σ2 H4 Nx else E H4)
    (q : ∀ D rs H', H D = none → Same H H' → H' D = some (.lst (rs.map V.ref)) → Paired (fun r i => H' r = some (.lst ((f i).map V.int))) rs (List.range n) → rs.Nodup → (∀ r ∈ rs, H r = none ∧ r ≠ D) → Q (.ref D) H') : LC J g tt te vs σ H Q := by
  intro D hD
  refine lc_it w (fun i H' => Same H H' ∧ ∃ rs, H' D = some (.lst (rs.map V.ref)) ∧ Paired (fun r i => H' r = some (.lst ((f i).map V.int))) rs (List.range i) ∧ rs.Nodup ∧ ∀ r ∈ rs, H r = none ∧ r ≠ D) ⟨same_upd hD, [], upd_same, .nil, List.nodup_nil, fun _ h => nomatch h⟩ (fun i H' _ h => hG _ h.1) ?_ ?_
  · rintro i x H' H2 hi ⟨s, rs, e, p, nd, fr⟩ hy
    have s2 : Same H' H2 := hY _ _ _ _ hy
    have hlen : rs.length = i := by rw [Paired.len p, List.length_range]
    refine he i x H' H2 _ _ hi s s2 hy fun r H'' s3 r0 er => ?_
    have s23 := s2.trans s3
    have rD : r ≠ D := (ne_of_none (s2 _ _ e) r0).symm
    refine ⟨rs.map V.ref, s23 _ _ e, sz4' (by rw [List.length_map]; omega), ?_, rs ++ [r], ?_, ?_, ?_, ?_⟩
    · intro b o eb
      rw [upd_ne (ne_of_none eb hD)]
      exact s23 _ _ (s _ _ eb)
    · rw [upd_same, List.map_append]; rfl
    · rw [List.range_succ]
      refine Paired.app ?_ (.cons (hp_set rD er) .nil)
      refine Paired.of_get (Paired.len p) fun k r' i' h1 h2 => ?_
      obtain ⟨i2, e2, h3⟩ := Paired.get1 p h1
      rw [h2] at e2; cases e2
      exact hp_set (fr r' (List.mem_of_getElem? h1)).2 (s23 _ _ h3)
    · refine List.nodup_append.mpr ⟨nd, List.nodup_cons.mpr ⟨by simp, List.nodup_nil⟩, fun a ha b hb e => ?_⟩
      rw [List.mem_singleton.mp hb] at e
      subst e
      obtain ⟨k, hk, e3⟩ := List.mem_iff_getElem.mp ha
      obtain ⟨i2, _, h3⟩ := Paired.get1 p (List.getElem?_eq_getElem hk)
      rw [e3] at h3
      rw [s2 _ _ h3] at r0; cases r0
    · intro r' hr'
      rcases List.mem_append.mp hr' with hr' | hr'
      · exact fr r' hr'
      · rw [List.mem_singleton.mp hr']
        exact ⟨(s.trans s2).free r0, rD⟩
  · rintro H' ⟨s, rs, e, p, nd, fr⟩
    exact q D rs H' hD s e p nd fr
end
end D0
namespace D0
open PySem PySem.Spec PyProof.Rows L2
section
variable {K : PySem.W.Frag} {σ : L2.St} {H : Hp} {Q : VK} {te tv : TE} {ta : TE} {t : TA} {f m : Str} {a C dx : Addr} {fs : List (Str × V)} {v : V} {D : Ends} {sp : Sp} {dvs : List V} {E : XK} {i : Nat} {ti : TIp}
theorem rd_fld (q : te σ H fun x H1 => ∃ a C dx fs v, x = .ref a ∧ H1 a = some (.ins C dx fs) ∧ Cls K C ∧ NoAttr K C f ∧ fs.lookup f = some v ∧ Q v H1) : tFld K te f σ H Q := q
theorem rv_fld {R : V → Prop} (e : H a = some (.ins C dx fs)) (c : Cls K C) (n : NoAttr K C f) (l : fs.lookup f = some v) (q : R v) : ∃ a' C' dx' fs' v', V.ref a = .ref a' ∧ H a' = some (.ins C' dx' fs') ∧ Cls K C' ∧ NoAttr K C' f ∧ fs'.lookup f = some v' ∧ R v' := ⟨a, C, dx, fs, v, rfl, e, c, n, l, q⟩
theorem rd_sfld (q : tv σ H fun y H1 => te σ H1 fun x H2 => ∃ a C dx fs, x = .ref a ∧ H2 a = some (.ins C dx fs) ∧ Cls K C ∧ NoAttr K C f ∧ fs.length < 1000 ∧ D.nx σ (upd H2 a (.ins C dx (putF f y fs)))) : sFld K te tv f D σ H := q
theorem rv_sfld {R : Hp → Prop} (e : H a = some (.ins C dx fs)) (c : Cls K C) (n : NoAttr K C f) (l : fs.length < 1000) (q : R (upd H a (.ins C dx (putF f v fs)))) : ∃ a' C' dx' fs', V.ref a = .ref a' ∧ H a' = some (.ins C' dx' fs') ∧ Cls K C' ∧ NoAttr K C' f ∧ fs'.length < 1000 ∧ R (upd H a' (.ins C' dx' (putF f v fs'))) := ⟨a, C, dx, fs, rfl, e, c, n, l, q⟩
theorem rd_meth (q : te σ H fun x H1 => ∃ a dx fs, x = .ref a ∧ H1 a = some (.ins C dx fs) ∧ fs.lookup m = none ∧ t σ H1 fun vs H2 => sp (x :: (vs ++ dvs)) H2 Q E) : tMeth C m sp dvs E te t σ H Q := q
theorem rv_meth {R : Prop} (e : H a = some (.ins C dx fs)) (l : fs.lookup m = none) (q : R) : ∃ a' dx' fs', V.ref a = .ref a' ∧ H a' = some (.ins C dx' fs') ∧ fs'.lookup m = none ∧ R := ⟨a, dx, fs, rfl, e, l, q⟩
theorem rd_make (q : t σ H fun vs H1 => ∀ x dx, H1 x = none → H1 dx = none → dx ≠ x → sp (.ref x :: (vs ++ dvs)) (upd (upd H1 dx (.own x)) x (.ins C dx [])) (fun v H2 => v = .non ∧ Q (.ref x) H2) E) : tMake C sp dvs E t σ H Q := q
theorem rd_stat (q : te σ H fun x H1 => x = .ref C ∧ t σ H1 fun vs H2 => sp vs H2 Q E) : tStat C sp E te t σ H Q := q
theorem rd_aug {x : V} (h : σ[i]? = some (some x)) (q : te σ H fun y H1 => ti x y H1 fun z H2 => D.nx (σ.set i (some z)) H2) : tAug i te ti D σ H := ⟨x, h, q⟩
theorem rv_own {y : V} (e : H a = some (.ins C dx fs)) (q : sp [.ref a, y] H Q E) : rOwn C sp E (.ref a) y H Q := ⟨⟨a, dx, fs, rfl, e⟩, q⟩
theorem rv_own2 {b dy : Addr} {gs : List (Str × V)} (e : H a = some (.ins C dx fs)) (e2 : H b = some (.ins C dy gs)) (q : sp [.ref a, .ref b] H Q E) : rOwn2 C sp E (.ref a) (.ref b) H Q := ⟨⟨a, dx, fs, b, dy, gs, rfl, e, rfl, e2⟩, q⟩
theorem rv_ownSet {y z : V} {R : Hp → Prop} (e : H a = some (.ins C dx fs)) (q : sp [.ref a, y, z] H (fun _ H' => R H') E) : rOwnSet C sp E (.ref a) y z H R := ⟨⟨a, dx, fs, rfl, e⟩, q⟩
end
end D0
namespace D0
open PySem PySem.Spec PyProof.Rows L2
def putT (tab : List (List Int)) (x y : Nat) (c : Int) : List (List Int) := tab.set x ((tab.getD x []).set y c)
def RowsLike (H : Hp) (v : V) (tab : List (List Int)) : Prop := ∃ a xs, v = .ref a ∧ (H a = some (.lst xs) ∨ H a = some (.tup xs)) ∧ Paired (fun x row => ∃ r, x = V.ref r ∧ (H r = some (.lst (row.map V.int)) ∨ H r = some (.tup (row.map V.int)))) xs tab
theorem RowsLike.same {H H' : Hp} {v : V} {tab : List (List Int)} (x : RowsLike H v tab) (s : Same H H') : RowsLike H' v tab := by
  obtain ⟨a, xs, rfl, e, p⟩ := x
  exact ⟨a, xs, rfl, e.imp (s _ _) (s _ _), Paired.mapP p fun u row ⟨r, e1, e2⟩ => ⟨r, e1, e2.imp (s _ _) (s _ _)⟩⟩
theorem RowsLike.of_tab {H : Hp} {t : Addr} {rs : List Addr} {tab : List (List Int)} (x : TabAt H t rs tab) : RowsLike H (.ref t) tab :=
  ⟨t, rs.map V.ref, rfl, .inl x.tb, Paired.map1 V.ref (Paired.mapP x.rw fun _ _ h => ⟨_, rfl, .inl h⟩)⟩
def zeroD (tab : List (List Int)) (n : Nat) : List (List Int) := mkT n fun a b => if a ≠ b then gT tab a b else 0
def addT (n : Nat) (s t : List (List Int)) : List (List Int) := mkT n fun a b => gT s a b + gT t a b
theorem pairs_mkT {H : Hp} {rs : List Addr} {n : Nat} {f : Nat → Nat → Int} (pr : Paired (fun r i => H r = some (.lst (((List.range n).map fun b => f i b).map V.int))) rs (List.range n)) : Paired (fun r row => H r = some (.lst (row.map V.int))) rs (mkT n f) := Paired.map2 _ pr
theorem getD_of {α : Type} {l : List α} {i : Nat} {x d : α} (h : l[i]? = some x) : l.getD i d = x := by rw [List.getD_eq_getElem?_getD, h]; rfl
end D0
namespace D0
open PySem PySem.Spec PyProof.Rows L2
theorem refs_of {α : Type} {P : Addr → α → Prop} : ∀ {ys : List V} {l : List α}, Paired (fun y row => ∃ x, y = V.ref x ∧ P x row) ys l → ∃ ps : List Addr, ys = ps.map V.ref ∧ Paired P ps l
  | _, _, .nil => ⟨[], rfl, .nil⟩
  | _, _, .cons ⟨x, e1, e2⟩ t => by
    obtain ⟨ps, e, p⟩ := refs_of t
    exact ⟨x :: ps, by rw [e1, e]; rfl, .cons e2 p⟩
end D0
namespace D0
open PySem PySem.Spec PyProof.Rows L2
section
variable {K : PySem.W.Frag} {σ : L2.St} {H : Hp} {ta : TA} {g : TG} {tt : TT} {te : TE} {vs : List Nat} {Q : VK}
theorem rd_enumL {R : It → Hp → Prop} (q : ta σ H fun vs H1 => ∃ a xs, vs = [.ref a] ∧ SqL K H1 a xs ∧ R (Ite K a) H1) : iEnum K ta σ H R := q
end
theorem row_list {n : Nat} {row : List Int} (hl : row.length = n) (f : Nat → Int → Int) : ((List.range row.length).filter fun _ => true).map (fun b => V.int (f b (row.getD b 0))) = (((List.range n).map fun b => f b (row.getD b 0))).map V.int := by
  rw [ftrue, hl, List.map_map]; rfl
end D0
namespace D0
open PySem PySem.Spec PyProof.Rows L2
theorem rv_stat {C : Addr} {R : Prop} (q : R) : V.ref C = V.ref C ∧ R := ⟨rfl, q⟩
end D0
namespace D0
open PySem PySem.Spec PyProof.Rows L2
section
variable {K : PySem.W.Frag} {σ σ2 : L2.St} {H H5 : Hp} {Q : VK} {te : TE} {vs vs1 : List Nat} {g g1 : TG} {tt tt1 : TT} {wi wi1 : TI} {D : Addr} {Nx : Hp → Prop}
def LI (J1 : It) (g1 : TG) (tt1 : TT) (te : TE) (vs1 : List Nat) (σ2 : L2.St) (D : Addr) (Nx : Hp → Prop) (H4 : Hp) : Prop := ∃ W1 : Nat → Nat → Hp → Prop, (∃ m, W1 0 m H4) ∧ ∀ j k H, W1 j k H →
      (J1.stop j H ∧ Nx H) ∨ (J1.go j H ∧ ∃ Nx1 : Hp → Prop, (∀ H', Nx1 H' → ∃ k', k' < k ∧ W1 (j + 1) k' H') ∧ ∀ x H', J1.yld j H x H' → g1 x (wipe σ2 vs1) H' fun σ3 H5 => wipe σ3 vs1 = wipe σ2 vs1 ∧ tt1 σ3 H5 fun b H6 =>
        if b = true then te σ3 H6 fun y H7 => ∃ acc, H7 D = some (.lst acc) ∧ acc.length < sizeLine ∧ Nx1 (upd H7 D (.lst (acc ++ [y]))) else Nx1 H6)
def LC2 (J : It) (g : TG) (tt : TT) (wi1 : TI) (g1 : TG) (tt1 : TT) (te : TE) (vs vs1 : List Nat) (σ : L2.St) (H1 : Hp) (Q : VK) : Prop := ∀ D, H1 D = none → ∃ W : Nat → Nat → Hp → Prop, (∃ m, W 0 m (upd H1 D (.lst []))) ∧ ∀ i m H, W i m H →
  (J.stop i H ∧ Q (.ref D) H) ∨ (J.go i H ∧ ∃ Nx : Hp → Prop, (∀ H', Nx H' → ∃ m', m' < m ∧ W (i + 1) m' H') ∧ ∀ x H', J.yld i H x H' → g x (wipe σ vs) H' fun σ2 H2 => wipe σ2 vs = wipe σ vs ∧ tt σ2 H2 fun b H3 =>
    if b = true then wi1 σ2 H3 fun J1 H4 => LI J1 g1 tt1 te vs1 σ2 D Nx H4 else Nx H3)
theorem rd_lc2 (q : wi σ H fun J H1 => LC2 J g tt wi1 g1 tt1 te vs vs1 σ H1 Q) : tLc2 wi g tt wi1 g1 tt1 te vs vs1 σ H Q := q
theorem li_pureF {J1 : It} {m : Nat} {G1 : Hp → Prop} {Y1 : Nat → Hp → V → Hp → Prop} (w : Walk J1 m G1 Y1) (kp1 : Nat → Bool) (f : Nat → V) (acc0 : List V) (e0 : H5 D = some (.lst acc0)) (hz : acc0.length + m ≤ 100000)
    (hG : ∀ H', Off D H5 H' → G1 H') (hY : ∀ i H' x H2, Y1 i H' x H2 → Same H' H2)
    (he : ∀ (j : Nat) (x : V) (H' H2 : Hp) (Qx : VK) (E : Hp → Prop), j < m → Off D H5 H' → (∃ zs, H' D = some (.lst zs)) → Same H' H2 → Y1 j H' x H2 → (kp1 j = true → ∀ H'', Same H2 H'' → Qx (f j) H'') → (kp1 j = false → ∀ H'', Same H2 H'' → E H'') →
      g1 x (wipe σ2 vs1) H2 fun σ3 H3 => wipe σ3 vs1 = wipe σ2 vs1 ∧ tt1 σ3 H3 fun b H4 => if b = true then te σ3 H4 Qx else E H4)
    (q : ∀ H', Off D H5 H' → H' D = some (.lst (acc0 ++ ((List.range m).filter kp1).map f)) → Nx H') : LI J1 g1 tt1 te vs1 σ2 D Nx H5 := by
  refine ⟨fun j k H => k = m - j ∧ j ≤ m ∧ Off D H5 H ∧ H D = some (.lst (acc0 ++ ((List.range j).filter kp1).map f)), ⟨m, by simp, Nat.zero_le _, Off.refl _ _, by rw [e0]; simp⟩, ?_⟩
  rintro j k H ⟨rfl, hj, o, e⟩
  have hg := hG H o
  by_cases hlt : j < m
  · refine .inr ⟨w.goes j H hlt hg, fun H' => Off D H5 H' ∧ H' D = some (.lst (acc0 ++ ((List.range (j + 1)).filter kp1).map f)), fun H' p => ⟨m - (j + 1), by omega, rfl, hlt, p.1, p.2⟩, fun x H' y => ?_⟩
    have y' := w.yields j H x H' hlt hg y
    have s := hY _ _ _ _ y'
    have hlen : (acc0 ++ ((List.range j).filter kp1).map f).length < sizeLine := sz4' (by
      rw [List.length_append, List.length_map]
      have := List.length_filter_le kp1 (List.range j)
      rw [List.length_range] at this
      omega)
    refine he j x H H' _ _ hlt o ⟨_, e⟩ s y' (fun hk H'' s2 => ?_) (fun hk H'' s2 => ?_)
    · have e2 := s2 _ _ (s _ _ e)
      refine ⟨_, e2, hlen, ((o.trans (Off.of_same (s.trans s2)))).set, ?_⟩
      rw [upd_same, List.range_succ, List.filter_append]
      simp [hk]
    · refine ⟨o.trans (Off.of_same (s.trans s2)), ?_⟩
      rw [s2 _ _ (s _ _ e), List.range_succ, List.filter_append]
      simp [hk]
  · have ej : j = m := by omega
    subst ej
    exact .inl ⟨w.stops H hg, q H o e⟩
/-- two clauses that change nothing that stood: at turn i the values L i are put behind -/
theorem lc2_pure {J : It} {n : Nat} {G : Hp → Prop} {Y : Nat → Hp → V → Hp → Prop} (w : Walk J n G Y) (L : Nat → List V)
    (hG : ∀ H', Same H H' → G H') (hY : ∀ i H' x H2, Y i H' x H2 → Same H' H2)
    (he : ∀ (D : Addr) (i : Nat) (x : V) (H' H2 : Hp) (Nx : Hp → Prop), i < n → H D = none → H' D = some (.lst ((List.range i).flatMap L)) → Same H H' → Same H' H2 → Y i H' x H2 → (∀ H'', Off D H2 H'' → H'' D = some (.lst ((List.range i).flatMap L ++ L i)) → Nx H'') →
      g x (wipe σ vs) H2 fun σ2 H3 => wipe σ2 vs = wipe σ vs ∧ tt σ2 H3 fun b H4 => if b = true then wi1 σ2 H4 fun J1 H5 => LI J1 g1 tt1 te vs1 σ2 D Nx H5 else Nx H4)
    (q : ∀ D H', H D = none → Same H H' → H' D = some (.lst ((List.range n).flatMap L)) → Q (.ref D) H') : LC2 J g tt wi1 g1 tt1 te vs vs1 σ H Q := by
  intro D hD
  refine ⟨fun i k H' => k = n - i ∧ i ≤ n ∧ Same H H' ∧ H' D = some (.lst ((List.range i).flatMap L)), ⟨n, by simp, Nat.zero_le _, same_upd hD, upd_same⟩, ?_⟩
  rintro i k H' ⟨rfl, hi, s, e⟩
  have hg := hG H' s
  by_cases hlt : i < n
  · refine .inr ⟨w.goes i H' hlt hg, fun H'' => Same H H'' ∧ H'' D = some (.lst ((List.range (i + 1)).flatMap L)), fun H'' p => ⟨n - (i + 1), by omega, rfl, hlt, p.1, p.2⟩, fun x H2 y => ?_⟩
    have y' := w.yields i H' x H2 hlt hg y
    have s2 := hY _ _ _ _ y'
    refine he D i x H' H2 _ hlt hD e s s2 y' fun H'' o e2 => ⟨fun b u eb => ?_, ?_⟩
    · exact o b u (ne_of_none eb hD) (s2 _ _ (s _ _ eb))
    · rw [e2, List.range_succ, List.flatMap_append]
      simp
  · have ei : i = n := by omega
    subst ei
    exact .inl ⟨w.stops H' hg, q D H' hD s e⟩
end
end D0
namespace D0
open PySem PySem.Spec PyProof.Rows L2
theorem same_off {D : Addr} {H H1 H2 : Hp} (s : Same H H1) (o : Off D H1 H2) (h : H D = none) : Same H H2 := fun b u e => o b u (ne_of_none e h) (s b u e)
theorem flat_len {α : Type} {L : Nat → List α} {m : Nat} (h : ∀ i, (L i).length ≤ m) : ∀ i, ((List.range i).flatMap L).length ≤ i * m
  | 0 => by simp
  | i + 1 => by
    rw [List.range_succ, List.flatMap_append, List.length_append]
    have h1 := flat_len h i
    have h2 := h i
    simp only [List.flatMap_cons, List.flatMap_nil, List.append_nil]
    rw [Nat.succ_mul]
    omega
theorem flatMap_ints (L : Nat → List Int) : ∀ n, (List.range n).flatMap (fun i => (L i).map V.int) = ((List.range n).flatMap L).map V.int := fun n => by rw [List.map_flatMap]
end D0
namespace D0
open PySem PySem.Spec PyProof.Rows L2
theorem BagAt.offs {b c : Addr} {cs : List Int} {S : List Addr} {H H' : Hp} (x : BagAt b c cs H) (f : OffS S H H') (hb : b ∉ S) (hc : c ∉ S) : BagAt b c cs H' := by
  obtain ⟨i, z, s, n, k, e, nc, hc', h1, h2⟩ := x
  exact ⟨i, z, s, n, k, f _ _ hb e, nc, f _ _ hc hc', h1, h2⟩
theorem map_at {tab : List (List Int)} (f : Int → Int) (i : Nat) : (tab.map fun row => row.map f).getD i [] = (tab.getD i []).map f := by
  rw [List.getD_eq_getElem?_getD, List.getD_eq_getElem?_getD, List.getElem?_map]
  cases tab[i]? <;> rfl
theorem gT_map {tab : List (List Int)} (f : Int → Int) (h0 : f 0 = 0) (i j : Nat) : gT (tab.map fun row => row.map f) i j = f (gT tab i j) := by
  unfold gT
  rw [map_at]
  generalize tab.getD i [] = row
  rw [List.getD_eq_getElem?_getD, List.getD_eq_getElem?_getD, List.getElem?_map]
  cases row[j]? with
  | none => exact h0.symm
  | some x => rfl
theorem sq_map {n : Nat} {tab : List (List Int)} (f : Int → Int) (h : ∀ row ∈ tab, row.length = n) : ∀ row ∈ (tab.map fun row => row.map f), row.length = n := by
  intro row hr
  obtain ⟨r, h1, rfl⟩ := List.mem_map.mp hr
  rw [List.length_map]; exact h r h1
end D0
namespace D0
open PySem PySem.Spec PyProof.Rows L2
theorem sum_perm {l m : List Int} (p : l.Perm m) : l.sum = m.sum := by
  induction p with
  | nil => rfl
  | cons x _ ih => rw [List.sum_cons, List.sum_cons, ih]
  | swap x y l => rw [List.sum_cons, List.sum_cons, List.sum_cons, List.sum_cons]; omega
  | trans _ _ h1 h2 => exact h1.trans h2
theorem sum_app (l m : List Int) : (l ++ m).sum = l.sum + m.sum := by
  induction l with
  | nil => simp
  | cons x l ih => rw [List.cons_append, List.sum_cons, List.sum_cons, ih]; omega
theorem sum_flat {α : Type} (g : α → List Int) : ∀ l : List α, (l.flatMap g).sum = (l.map fun x => (g x).sum).sum
  | [] => rfl
  | x :: l => by rw [List.flatMap_cons, sum_app, sum_flat g l, List.map_cons, List.sum_cons]
def priceL (o : List Nat) (f : Nat → Nat → Int) : List Int := (List.range o.length).flatMap fun i => (o.drop (i + 1)).map fun b => f (o.getD i 0) b
theorem list_range {α : Type} (l : List α) (d : α) : l = (List.range l.length).map fun i => l.getD i d := by
  refine List.ext_getElem (by simp) fun i h1 h2 => ?_
  rw [List.getElem_map, List.getElem_range, List.getD_eq_getElem?_getD, List.getElem?_eq_getElem h1]; rfl
theorem filter_drop {o : List Nat} {pos : Nat → Nat} (h : ∀ k, k < o.length → pos (o.getD k 0) = k) (i : Nat) : (o.filter fun b => decide (i < pos b)) = o.drop (i + 1) := by
  have e : o = o.take (i + 1) ++ o.drop (i + 1) := (List.take_append_drop (i + 1) o).symm
  have h1 : ((o.take (i + 1)).filter fun b => decide (i < pos b)) = [] := by
    refine List.filter_eq_nil_iff.mpr fun b hb => ?_
    obtain ⟨k, hk, rfl⟩ := List.mem_iff_getElem.mp hb
    rw [List.length_take] at hk
    have := h k (by omega)
    rw [List.getD_eq_getElem?_getD, List.getElem?_eq_getElem (by omega)] at this
    rw [List.getElem_take, show pos (o[k]'(by omega)) = k from this]
    simp; omega
  have h2 : ((o.drop (i + 1)).filter fun b => decide (i < pos b)) = o.drop (i + 1) := by
    refine List.filter_eq_self.mpr fun b hb => ?_
    obtain ⟨k, hk, rfl⟩ := List.mem_iff_getElem.mp hb
    rw [List.length_drop] at hk
    have := h (i + 1 + k) (by omega)
    rw [List.getD_eq_getElem?_getD, List.getElem?_eq_getElem (by omega)] at this
    rw [List.getElem_drop, show pos (o[i + 1 + k]'(by omega)) = i + 1 + k from this]
    simp; omega
  conv => lhs; rw [e]
  rw [List.filter_append, h1, h2, List.nil_append]
theorem price_math {n : Nat} {o : List Nat} (p : o.Perm (List.range n)) (pos : Nat → Nat) (h : ∀ k, k < n → pos (o.getD k 0) = k) (f : Nat → Nat → Int) :
    ((List.range n).map fun a => (((List.range n).filter fun b => decide (pos a < pos b)).map fun b => f a b).sum).sum = (priceL o f).sum := by
  have hl : o.length = n := by rw [p.length_eq, List.length_range]
  unfold priceL
  rw [sum_flat, ← sum_perm (p.map fun a => (((List.range n).filter fun b => decide (pos a < pos b)).map fun b => f a b).sum)]
  conv => lhs; rw [list_range o 0]
  rw [List.map_map]
  congr 1
  refine List.map_congr_left fun i hi => ?_
  have hi' : i < n := by rw [← hl]; exact List.mem_range.mp hi
  show (((List.range n).filter fun b => decide (pos (o.getD i 0) < pos b)).map fun b => f (o.getD i 0) b).sum = _
  rw [h i hi', ← sum_perm ((p.filter fun b => decide (i < pos b)).map fun b => f (o.getD i 0) b), filter_drop (by rw [hl]; exact h)]
theorem perm_swap {o : List Nat} {k : Nat} (h : k + 1 < o.length) : (o.take k ++ [o[k + 1], o[k]] ++ o.drop (k + 2)).Perm o := by
  have e : o = o.take k ++ (o[k] :: o[k + 1] :: o.drop (k + 2)) := by
    rw [← List.drop_eq_getElem_cons (show k + 1 < o.length from h), ← List.drop_eq_getElem_cons (show k < o.length by omega), List.take_append_drop]
  conv => rhs; rw [e]
  rw [List.append_assoc]
  refine List.Perm.append_left _ ?_
  exact List.Perm.swap ..
theorem perm_move {o : List Nat} {i j : Nat} (h : i < o.length) : (((o.take i ++ o.drop (i + 1)).take j ++ [o[i]]) ++ (o.take i ++ o.drop (i + 1)).drop j).Perm o := by
  have e : o = o.take i ++ (o[i] :: o.drop (i + 1)) := by rw [← List.drop_eq_getElem_cons h, List.take_append_drop]
  generalize hr : o.take i ++ o.drop (i + 1) = r
  have h1 : ((r.take j ++ [o[i]]) ++ r.drop j).Perm (o[i] :: r) := by
    rw [List.append_assoc]
    refine List.Perm.trans List.perm_middle ?_
    show (o[i] :: (r.take j ++ r.drop j)).Perm _
    rw [List.take_append_drop]
  refine h1.trans ?_
  rw [← hr]
  conv => rhs; rw [e]
  exact List.perm_middle.symm
end D0
namespace D0
open PySem PySem.Spec PyProof.Rows L2
theorem tab_range {H : Hp} {D : Addr} {gs : List Addr} {tab : List (List Int)} {n : Nat} (hn : tab.length = n) (e : H D = some (.lst (gs.map V.ref))) (p : Paired (fun r i => H r = some (.lst ((tab.getD i []).map V.int))) gs (List.range n)) : TabAt H D gs tab := by
  refine ⟨e, Paired.of_range hn.symm ?_⟩
  refine Paired.of_get (Paired.len p) fun k r i h1 h2 => ?_
  obtain ⟨i2, e2, h3⟩ := Paired.get1 p h1
  rw [h2] at e2; cases e2
  have hi : k < n := by rw [← List.length_range (n := n)]; exact (List.getElem?_eq_some_iff.mp h2).1
  rw [List.getElem?_range hi] at h2; cases h2
  exact ⟨tab[k]'(by omega), List.getElem?_eq_getElem (by omega), by rw [← getD_of (d := []) (List.getElem?_eq_getElem (show k < tab.length by omega))]; exact h3⟩
theorem gT_put {tab : List (List Int)} {x y : Nat} {c : Int} (hx : x < tab.length) (hy : y < (tab.getD x []).length) (i j : Nat) : gT (putT tab x y c) i j = if i = x ∧ j = y then c else gT tab i j := by
  unfold gT putT
  rw [List.getD_eq_getElem?_getD (l := tab.set x _), List.getElem?_set]
  by_cases h : x = i
  · subst h
    rw [if_pos rfl, if_pos hx]
    show (((tab.getD x []).set y c).getD j 0) = _
    rw [List.getD_eq_getElem?_getD, List.getElem?_set]
    by_cases h2 : y = j
    · subst h2
      rw [if_pos rfl, if_pos hy, if_pos ⟨rfl, rfl⟩]; rfl
    · rw [if_neg h2, if_neg (fun z => h2 z.2.symm), ← List.getD_eq_getElem?_getD]
  · rw [if_neg h, if_neg (fun z => h z.1.symm), ← List.getD_eq_getElem?_getD]
theorem tab_ext {n : Nat} {s t : List (List Int)} (h1 : s.length = n) (h2 : ∀ row ∈ s, row.length = n) (h3 : t.length = n) (h4 : ∀ row ∈ t, row.length = n) (h : ∀ i j, i < n → j < n → gT s i j = gT t i j) : s = t := by
  rw [tab_eta h1 h2, tab_eta h3 h4]
  unfold mkT
  refine List.map_congr_left fun a ha => List.map_congr_left fun b hb => h a b (List.mem_range.mp ha) (List.mem_range.mp hb)
theorem sq_getD {n : Nat} {tab : List (List Int)} (h1 : tab.length = n) (h2 : ∀ row ∈ tab, row.length = n) {x : Nat} (hx : x < n) : (tab.getD x []).length = n := by
  rw [getD_of (List.getElem?_eq_getElem (show x < tab.length by omega))]
  exact h2 _ (List.getElem_mem _)
theorem putT_sq {n : Nat} {tab : List (List Int)} {x y : Nat} {c : Int} (h1 : tab.length = n) (h2 : ∀ row ∈ tab, row.length = n) (hx : x < n) : (putT tab x y c).length = n ∧ ∀ row ∈ putT tab x y c, row.length = n := by
  unfold putT
  refine ⟨by rw [List.length_set]; exact h1, fun row h => ?_⟩
  rcases List.mem_or_eq_of_mem_set h with h | h
  · exact h2 row h
  · rw [h, List.length_set]; exact sq_getD h1 h2 hx
theorem bag_ne {b c : Addr} {cs : List Int} {H : Hp} {p : Addr} {C dx : Addr} {fs : List (Str × V)} (x : BagAt b c cs H) (e : H p = some (.ins C dx fs)) : p ≠ b ∧ p ≠ c := by
  obtain ⟨_, _, _, _, _, e1, _, e2, _⟩ := x
  exact ⟨fun h => (by rw [h, e1] at e; cases e), fun h => (by rw [h, e2] at e; cases e)⟩
theorem TabAt.lsts {H : Hp} {l : Addr} {ls : List Addr} {tab : List (List Int)} (x : TabAt H l ls tab) : ∀ y ∈ l :: ls, ∃ ys, H y = some (.lst ys) := by
  intro y hy
  rcases List.mem_cons.mp hy with rfl | hy
  · exact ⟨_, x.tb⟩
  · obtain ⟨k, hk, e⟩ := List.mem_iff_getElem.mp hy
    obtain ⟨row, _, h⟩ := Paired.get1 x.rw (List.getElem?_eq_getElem hk)
    rw [e] at h
    exact ⟨_, h⟩
theorem row_at {n : Nat} {tab : List (List Int)} {i j : Nat} (h1 : tab.length = n) (h2 : ∀ row ∈ tab, row.length = n) (hi : i < n) (hj : j < n) : atI ((tab[i]'(by omega)).map V.int) (j : Int) = some (.int (gT tab i j)) := by
  have gi := List.getElem?_eq_getElem (show i < tab.length by omega)
  have hrow := h2 _ (List.mem_of_getElem? gi)
  rw [gT_row gi]
  refine atI_nat ?_
  rw [List.getElem?_map, List.getElem?_eq_getElem (by omega), getD_of (List.getElem?_eq_getElem (by omega))]; rfl
theorem paired_mapP {α β : Type} {F G : α → β → Prop} : ∀ {l : List α} {m : List β}, Paired F l m → (∀ x y, y ∈ m → F x y → G x y) → Paired G l m
  | _, _, .nil, _ => .nil
  | _, _, .cons h t, f => .cons (f _ _ (by simp) h) (paired_mapP t fun x y hy => f x y (List.mem_cons_of_mem _ hy))
theorem CostsAt.off {C b : Addr} {H H' : Hp} {p : Addr} {n : Nat} {t : Addr} {rs : List Addr} {tab : List (List Int)} (x : CostsAt C H p n t rs tab) (f : Off b H H') (h : p ≠ b) (sb : ∀ x ∈ t :: rs, x ≠ b) : CostsAt C H' p n t rs tab :=
  x.offs (S := [b]) (OffS.of_off f (by simp)) (by simpa using h) (by simpa using sb t (by simp)) (fun r hr => by simpa using sb r (List.mem_cons_of_mem _ hr))
theorem TabAt.off {b : Addr} {H H' : Hp} {t : Addr} {rs : List Addr} {tab : List (List Int)} (x : TabAt H t rs tab) (f : Off b H H') (sb : ∀ x ∈ t :: rs, x ≠ b) : TabAt H' t rs tab :=
  x.offs (S := [b]) (OffS.of_off f (by simp)) (by simpa using sb t (by simp)) (fun r hr => by simpa using sb r (List.mem_cons_of_mem _ hr))
theorem cons_all {P : Addr → Prop} {t : Addr} {rs : List Addr} (h : P t) (h2 : ∀ r ∈ rs, P r) : ∀ x ∈ t :: rs, P x := fun x hx => by
  rcases List.mem_cons.mp hx with rfl | hx
  · exact h
  · exact h2 x hx
theorem apart {H : Hp} {l : Addr} {ls ts : List Addr} (h : ∀ y ∈ l :: ls, ∃ ys, H y = some (.lst ys)) (f : ∀ x ∈ ts, H x = none) : ∀ y ∈ l :: ls, y ∉ ts := fun y hy hm => by
  obtain ⟨ys, e⟩ := h y hy
  rw [f y hm] at e; cases e
theorem ring_next {n i d : Nat} (hi : i < n) (hd : d + 1 < n) : ∃ j : Nat, ((i : Int) + 1 + (d : Int)).fmod (n : Int) = (j : Int) ∧ j < n ∧ i ≠ j := by
  rw [Int.fmod_eq_emod_of_nonneg _ (by omega)]
  by_cases h : i + 1 + d < n
  · exact ⟨i + 1 + d, by rw [Int.emod_eq_of_lt (by omega) (by omega)]; omega, h, by omega⟩
  · refine ⟨i + 1 + d - n, ?_, by omega, by omega⟩
    rw [show (i : Int) + 1 + (d : Int) = ((i + 1 + d - n : Nat) : Int) + (n : Int) * 1 by omega, Int.add_mul_emod_self_left, Int.emod_eq_of_lt (by omega) (by omega)]
end D0
namespace D0
open PySem PySem.Spec PyProof.Rows L2 StX
section
variable {X : Cx} {K : PySem.W.Frag} {σ : L2.St} {H : Hp} {te : TE} {t : TA}
theorem pa_starK {e : Expr} {es : List Expr} {p : Pos} (K : PySem.W.Frag) (he : PE X e te) (hr : PA X es t) (hK : X.K = K := by rfl) (hs : starEach (.Starred e p :: es) X.env = (true, eval e X.env) :: starEach es X.env := by rfl) : PA X (.Starred e p :: es) (tStar K te t) := by
  subst hK
  exact pa_star he hr hs
theorem rd_star {Q : List V → Hp → Prop} (q : te σ H fun x H1 => ∃ p xs, x = V.ref p ∧ (SqT K H1 p xs ∨ SqL K H1 p xs) ∧ t σ H1 fun ys H2 => Q (xs ++ ys) H2) : tStar K te t σ H Q := q
theorem rv_starT {p : Addr} {xs : List V} {R : List V → Prop} (h : H p = some (.tup xs)) (q : R xs) : ∃ p' xs', V.ref p = V.ref p' ∧ (SqT K H p' xs' ∨ SqL K H p' xs') ∧ R xs' := ⟨p, xs, rfl, .inl (SqT.of h), q⟩
theorem rv_starL {p : Addr} {xs : List V} {R : List V → Prop} (h : H p = some (.lst xs)) (q : R xs) : ∃ p' xs', V.ref p = V.ref p' ∧ (SqT K H p' xs' ∨ SqL K H p' xs') ∧ R xs' := ⟨p, xs, rfl, .inr (SqL.of h), q⟩
end
def tDisp1 (tk tv : TE) : TE := fun σ H Q => ∀ p, H p = none → tk σ (upd H p (.dT [])) fun x H1 => tv σ H1 fun y H2 => H2 p = some (.dT []) ∧ ∃ b k, x = .ref b ∧ H2 b = some (.tup (k.map kV)) ∧ Q (.ref p) (upd H2 p (.dT [(k, y)]))
theorem pe_disp1 {X : Cx} {pos : Pos} {k v : Expr} {tk tv : TE} (hu : X.A.units + 1 < cLine) (hk : PE X k tk) (hv : PE X v tv) : PE X (.Dict [some k] [v] pos) (tDisp1 tk tv) := by
  refine ⟨fun pins s σ H Q I q => ?_⟩
  have hn := I.hok.fresh (Nat.le_refl s.heap.objs.size)
  have I1 := I.laid (a := s.heap.objs.size) (o := .dT []) (h' := s.heap.push { cls := .type "dict", data := .dict #[] }) (t' := s.toks) (fun _ _ q => Heap.get?_push_of_some _ q) (Nat.le_refl _) (dt_empty s.heap I.big)
  have P := (pps_cons hk hv pps_nil).run pins _ σ _ (fun ps H2 => match ps with | [(x, y)] => H2 s.heap.objs.size = some (.dT []) ∧ ∃ b kk, x = .ref b ∧ H2 b = some (.tup (kk.map kV)) ∧ Q (.ref s.heap.objs.size) (upd H2 s.heap.objs.size (.dT [(kk, y)])) | _ => False) I1 ?_ (pos := pos)
  · rw [arm_eval_Dict, zip_pairTrees [some k] [v] X.env pos rfl rfl, dictDisplay_pairs _ (by simp [pairTrees]) (by simp [pairTrees])]
    refine wpAny_bind (wpAny_standAt (wpAny_bind ?_))
    unfold subDict
    refine wpAny_bind (wpAny_alloc ?_)
    refine wpAny_bind (wpAny_holding ?_)
    rw [if_pos (by simp [pairTrees])]
    refine wpAny_bind (wpAny_mono P (fun vs s1 h1 => ?_) fun _ _ e => e)
    obtain ⟨ps, H2, I2, rel, h1⟩ := h1
    obtain ⟨x, y, rfl, e, b, kk, rfl, eb, q2⟩ : ∃ x y, ps = [(x, y)] ∧ H2 s.heap.objs.size = some (.dT []) ∧ ∃ b kk, x = V.ref b ∧ H2 b = some (.tup (kk.map kV)) ∧ Q (.ref s.heap.objs.size) (upd H2 s.heap.objs.size (.dT [(kk, y)])) := by
      match ps, h1 with
      | [(x, y)], h => exact ⟨x, y, rfl, h⟩
    cases rel with
    | @cons p0 q0 _ qs h0 t0 =>
      cases t0
      obtain ⟨r1, r2⟩ := h0
      obtain ⟨u, r⟩ := q0
      cases (show u = Value.ref b from r1)
      obtain ⟨z, hd, xs, relK, dd⟩ := dt_of I2.hok e
      refine wpAny_holding ?_
      rw [List.forIn_cons]
      have hz : xs.length ≤ sizeLine := by rw [← Paired.length relK]; exact z
      refine wpAny_bind (wpAny_bind (wpAny_bind (wpAny_dictSet_heap (hsz := hz) (show (tupleKind (mixKind X.prog X.w)).room X.A from Nat.lt_of_succ_lt hu) (key_of I2.hok eb) dd fun h' dd' hs => wpAny_pure ?_)))
      show wpAny _ _ (forIn [] _ _) _ _ _
      rw [List.forIn_nil]
      refine wpAny_pure (wpAny_pure (wpAny_pure (wpAny_pure ?_)))
      refine ⟨.ref s.heap.objs.size, upd H2 s.heap.objs.size (.dT [(kk, y)]), ?_, rfl, q2⟩
      obtain ⟨q, es, ep, hq, h2, h3, h4, _, h5⟩ := dd'
      have rk := relK.put kk eb r2
      refine d_write I2 (by rw [e]; exact True.intro) hs ⟨q, hq⟩ ⟨by rw [sizeLine_eq]; simp, hd, _, rk.keeps fun c ys ec => ?_, q, es, ep, hq, h2, h3, h4, h5⟩
      rw [upd_ne (ne_of ec e (fun z => nomatch z))]
      exact ec
  · exact q _ hn
theorem rd_disp1 {σ : L2.St} {H : Hp} {Q : VK} {tk tv : TE} (q : ∀ p, H p = none → tk σ (upd H p (.dT [])) fun x H1 => tv σ H1 fun y H2 => H2 p = some (.dT []) ∧ ∃ b k, x = .ref b ∧ H2 b = some (.tup (k.map kV)) ∧ Q (.ref p) (upd H2 p (.dT [(k, y)]))) : tDisp1 tk tv σ H Q := q
end D0
namespace D0
open PySem PySem.Spec PyProof.Rows L2
section
variable {K : PySem.W.Frag} {H : Hp} {Q : VK}
theorem rv_isiDT {a : Addr} {kvs : List (List Key × V)} {ty : String} {r : Bool} (e : H a = some (.dT kvs)) (h : kitB "dict" ty = some r) (q : Q (.bl r) H) : rIsi K [.ref a, .ty ty] H Q := ⟨_, _, _, _, _, rfl, .ty ty, .base (.dT e), kit_ty h, q⟩
theorem rv_lenDT {a : Addr} {kvs : List (List Key × V)} (e : H a = some (.dT kvs)) (q : Q (.int ((kvs.length : Nat) : Int)) H) : rLenT [.ref a] H Q := ⟨a, kvs, rfl, e, q⟩
end
theorem lock_keysT {i : Nat} {d : Addr} {kvs : List (List Key × V)} {g : TG} {tb : L2.TS} {D : Ends} {σ : L2.St} {H : Hp} (hσ : σ[i]? = some (some (.ref d))) (hd : H d = some (.dT kvs)) (Pv : L2.St → Prop) (h0 : Pv σ)
    (hs : ∀ (E : Ends) (od : Obj) (H1 : Hp) (j : Nat) (k : List Key) (v : V) (q : Addr) (σ1 : L2.St), H1 d = some (.frz od (.dT kvs)) → (∀ b o, b ≠ d → H b = some o → H1 b = some o) → kvs[j]? = some (k, v) → H1 q = some (.tup (k.map kV)) → Pv σ1 → (∀ σ' H', Same H1 H' → Pv σ' → E.nx σ' H') → g (.ref q) σ1 H1 fun σ2 H2 => tb E σ2 H2)
    (hn : ∀ σ' H', Pv σ' → Same H H' → D.nx σ' H') : tLock (tFor (iKeys (tVar i)) g tb) D σ H := by
  refine ⟨d, _, hd, trivial, fun od => ?_⟩
  have ed : upd H d (.frz od (.dT kvs)) d = some (.frz od (.dT kvs)) := upd_same
  have eo : ∀ b o, b ≠ d → H b = some o → upd H d (.frz od (.dT kvs)) b = some o := fun b o n e => by rw [upd_ne n]; exact e
  have back : ∀ b o, b ≠ d → upd H d (.frz od (.dT kvs)) b = some o → H b = some o := fun b o n e => by rw [upd_ne n] at e; exact e
  generalize upd H d (.frz od (.dT kvs)) = HL at ed eo back
  refine rd_for ⟨_, hσ, d, od, rfl, .inr ⟨kvs, ed, ?_⟩⟩
  refine for_it walk_keysT (fun _ σ' H' => Same HL H' ∧ Pv σ') ⟨fun _ _ e => e, h0⟩ (fun _ _ _ _ p => p.1 _ _ ed) ?_ ?_
  · rintro j x σ1 H1 H2 hj ⟨s1, p1⟩ ⟨rfl, k, v, q, ek, rfl, eq⟩
    refine hs _ od H2 j k v q σ1 (s1 _ _ ed) (fun b o n e => s1 _ _ (eo b o n e)) ek eq p1 fun σ' H' s2 p2 => ⟨s1.trans s2, p2⟩
  · rintro σ' H' ⟨s', p'⟩
    refine ⟨s' _ _ ed, hn _ _ p' fun b o e => ?_⟩
    by_cases hb : b = d
    · subst hb
      rw [upd_same, ← hd, e]
    · rw [upd_ne hb]
      exact s' _ _ (eo b o hb e)
end D0
namespace K29
open PySem PySem.Spec PyProof.Rows L2 D0
def topS (i : Nat) : Stmt := PySem.Challenge.pw_drawnlayers_k29_whole_least_orders.main.body.getD i (.Pass ⟨0, 0, 0, 0⟩)
abbrev s_least_order : Stmt := topS 1
theorem sc_least_order : FnScope ["costs", "rows", "table", "left", "price", "order", "first"] ["costs"] (defScope s_least_order) := ⟨rfl, rfl, rfl, by decide +kernel, rfl, by decide +kernel, by decide +kernel⟩
abbrev s_subset_table : Stmt := topS 2
theorem sc_subset_table : FnScope ["costs", "rows", "table", "subset", "last"] ["costs"] (defScope s_subset_table) := ⟨rfl, rfl, rfl, by decide +kernel, rfl, by decide +kernel, by decide +kernel⟩
abbrev s_subsets : Stmt := topS 3
theorem sc_subsets : FnScope ["size", "subsets", "number", "subset"] ["size"] (defScope s_subsets) := ⟨rfl, rfl, rfl, by decide +kernel, rfl, by decide +kernel, by decide +kernel⟩
abbrev s_without : Stmt := topS 4
theorem sc_without : FnScope ["subset", "member", "other"] ["subset", "member"] (defScope s_without) := ⟨rfl, rfl, rfl, by decide +kernel, rfl, by decide +kernel, by decide +kernel⟩
abbrev s_price_with_last : Stmt := topS 5
theorem sc_price_with_last : FnScope ["rows", "table", "subset", "last", "other"] ["rows", "table", "subset", "last"] (defScope s_price_with_last) := ⟨rfl, rfl, rfl, by decide +kernel, rfl, by decide +kernel, by decide +kernel⟩
abbrev s_least_first : Stmt := topS 6
theorem sc_least_first : FnScope ["rows", "table", "subset", "firsts", "first"] ["rows", "table", "subset"] (defScope s_least_first) := ⟨rfl, rfl, rfl, by decide +kernel, rfl, by decide +kernel, by decide +kernel⟩
abbrev s_price_with_first : Stmt := topS 7
theorem sc_price_with_first : FnScope ["rows", "table", "subset", "first", "other"] ["rows", "table", "subset", "first"] (defScope s_price_with_first) := ⟨rfl, rfl, rfl, by decide +kernel, rfl, by decide +kernel, by decide +kernel⟩
abbrev s_NoPair___init__ : Stmt := inClass (topS 10) 0
theorem sc_NoPair___init__ : FnScope ["self", "a", "b"] ["self", "a", "b"] (defScope s_NoPair___init__) := ⟨rfl, rfl, rfl, by decide +kernel, rfl, by decide +kernel, by decide +kernel⟩
abbrev s_SizesDiffer___init__ : Stmt := inClass (topS 11) 0
theorem sc_SizesDiffer___init__ : FnScope ["self", "first", "second"] ["self", "first", "second"] (defScope s_SizesDiffer___init__) := ⟨rfl, rfl, rfl, by decide +kernel, rfl, by decide +kernel, by decide +kernel⟩
abbrev s_Costs___init__ : Stmt := inClass (topS 13) 0
theorem sc_Costs___init__ : FnScope ["self", "size", "_"] ["self", "size"] (defScope s_Costs___init__) := ⟨rfl, rfl, rfl, by decide +kernel, rfl, by decide +kernel, by decide +kernel⟩
abbrev s_Costs___iter__ : Stmt := inClass (topS 13) 1
theorem sc_Costs___iter__ : FnScope ["self"] ["self"] (defScope s_Costs___iter__) := ⟨rfl, rfl, rfl, by decide +kernel, rfl, by decide +kernel, by decide +kernel⟩
abbrev s_Costs___getitem__ : Stmt := inClass (topS 13) 2
theorem sc_Costs___getitem__ : FnScope ["self", "at", "a", "b"] ["self", "at"] (defScope s_Costs___getitem__) := ⟨rfl, rfl, rfl, by decide +kernel, rfl, by decide +kernel, by decide +kernel⟩
abbrev s_Costs___setitem__ : Stmt := inClass (topS 13) 3
theorem sc_Costs___setitem__ : FnScope ["self", "at", "worth", "a", "b"] ["self", "at", "worth"] (defScope s_Costs___setitem__) := ⟨rfl, rfl, rfl, by decide +kernel, rfl, by decide +kernel, by decide +kernel⟩
abbrev s_Costs___add__ : Stmt := inClass (topS 13) 4
theorem sc_Costs___add__ : FnScope ["self", "other"] ["self", "other"] (defScope s_Costs___add__) := ⟨rfl, rfl, rfl, by decide +kernel, rfl, by decide +kernel, by decide +kernel⟩
abbrev s_Costs___iadd__ : Stmt := inClass (topS 13) 5
theorem sc_Costs___iadd__ : FnScope ["self", "other"] ["self", "other"] (defScope s_Costs___iadd__) := ⟨rfl, rfl, rfl, by decide +kernel, rfl, by decide +kernel, by decide +kernel⟩
abbrev s_Costs_put : Stmt := inClass (topS 13) 6
theorem sc_Costs_put : FnScope ["self", "a", "b", "cost"] ["self", "a", "b", "cost"] (defScope s_Costs_put) := ⟨rfl, rfl, rfl, by decide +kernel, rfl, by decide +kernel, by decide +kernel⟩
abbrev s_Costs_rows : Stmt := inClass (topS 13) 7
theorem sc_Costs_rows : FnScope ["self", "row"] ["self"] (defScope s_Costs_rows) := ⟨rfl, rfl, rfl, by decide +kernel, rfl, by decide +kernel, by decide +kernel⟩
abbrev s_Costs_of : Stmt := inClass (topS 13) 8
theorem sc_Costs_of : FnScope ["rows", "table"] ["rows"] (defScope s_Costs_of) := ⟨rfl, rfl, rfl, by decide +kernel, rfl, by decide +kernel, by decide +kernel⟩
abbrev s_check_pair : Stmt := topS 14
theorem sc_check_pair : FnScope ["size", "a", "b"] ["size", "a", "b"] (defScope s_check_pair) := ⟨rfl, rfl, rfl, by decide +kernel, rfl, by decide +kernel, by decide +kernel⟩
abbrev s_check_sizes : Stmt := topS 15
theorem sc_check_sizes : FnScope ["first", "second"] ["first", "second"] (defScope s_check_sizes) := ⟨rfl, rfl, rfl, by decide +kernel, rfl, by decide +kernel, by decide +kernel⟩
abbrev s_copied : Stmt := topS 16
theorem sc_copied : FnScope ["rows", "b", "cost", "a", "row"] ["rows"] (defScope s_copied) := ⟨rfl, rfl, rfl, by decide +kernel, rfl, by decide +kernel, by decide +kernel⟩
abbrev s_added : Stmt := topS 17
theorem sc_added : FnScope ["first", "second", "x", "y", "one", "other"] ["first", "second"] (defScope s_added) := ⟨rfl, rfl, rfl, by decide +kernel, rfl, by decide +kernel, by decide +kernel⟩
abbrev s_law_bag : Stmt := topS 19
theorem sc_law_bag : FnScope ["script", "cell"] ["script"] (defScope s_law_bag) := ⟨rfl, rfl, rfl, by decide +kernel, rfl, by decide +kernel, by decide +kernel⟩
abbrev s_law_draw : Stmt := topS 20
theorem sc_law_draw : FnScope ["bag", "many", "cell", "drawn", "first", "second", "third"] ["bag", "many"] (defScope s_law_draw) := ⟨rfl, rfl, rfl, by decide +kernel, rfl, by decide +kernel, by decide +kernel⟩
abbrev s_law_whole : Stmt := topS 21
theorem sc_law_whole : FnScope ["got"] ["got"] (defScope s_law_whole) := ⟨rfl, rfl, rfl, by decide +kernel, rfl, by decide +kernel, by decide +kernel⟩
abbrev s_law_same : Stmt := topS 22
theorem sc_law_same : FnScope ["got", "due", "k", "key"] ["got", "due"] (defScope s_law_same) := ⟨rfl, rfl, rfl, by decide +kernel, rfl, by decide +kernel, by decide +kernel⟩
abbrev s_law_cost_rows : Stmt := topS 23
theorem sc_law_cost_rows : FnScope ["bag", "size", "way_of", "rows", "a", "row", "b", "price_here"] ["bag", "size"] (defScope s_law_cost_rows) := ⟨rfl, rfl, rfl, by decide +kernel, rfl, by decide +kernel, by decide +kernel⟩
abbrev s_law_order_price : Stmt := topS 24
theorem sc_law_order_price : FnScope ["rows", "order", "total", "i", "k"] ["rows", "order"] (defScope s_law_order_price) := ⟨rfl, rfl, rfl, by decide +kernel, rfl, by decide +kernel, by decide +kernel⟩
abbrev s_law_subsets : Stmt := topS 25
theorem sc_law_subsets : FnScope ["size", "subsets", "k", "subset"] ["size"] (defScope s_law_subsets) := ⟨rfl, rfl, rfl, by decide +kernel, rfl, by decide +kernel, by decide +kernel⟩
abbrev s_law_table : Stmt := topS 26
theorem sc_law_table : FnScope ["rows", "table", "subset", "best", "v", "rest", "u", "total"] ["rows"] (defScope s_law_table) := ⟨rfl, rfl, rfl, by decide +kernel, rfl, by decide +kernel, by decide +kernel⟩
abbrev s_law_least_order : Stmt := topS 27
theorem sc_law_least_order : FnScope ["rows", "table", "left", "order", "k", "chosen", "v", "total", "u"] ["rows"] (defScope s_law_least_order) := ⟨rfl, rfl, rfl, by decide +kernel, rfl, by decide +kernel, by decide +kernel⟩
abbrev s_law_lifted : Stmt := topS 28
theorem sc_law_lifted : FnScope ["bag", "rows", "size", "b", "a"] ["bag", "rows"] (defScope s_law_lifted) := ⟨rfl, rfl, rfl, by decide +kernel, rfl, by decide +kernel, by decide +kernel⟩
abbrev s_law_table_made : Stmt := topS 29
theorem sc_law_table_made : FnScope ["bag", "rows", "size", "way_of", "given", "row", "a", "costs", "b", "one"] ["bag", "rows"] (defScope s_law_table_made) := ⟨rfl, rfl, rfl, by decide +kernel, rfl, by decide +kernel, by decide +kernel⟩
abbrev s_law_all_orders : Stmt := topS 30
theorem sc_law_all_orders : FnScope ["size", "orders", "k", "longer", "order", "v"] ["size"] (defScope s_law_all_orders) := ⟨rfl, rfl, rfl, by decide +kernel, rfl, by decide +kernel, by decide +kernel⟩
abbrev s_law_first_least : Stmt := topS 31
theorem sc_law_first_least : FnScope ["rows", "least", "chosen", "order", "total"] ["rows"] (defScope s_law_first_least) := ⟨rfl, rfl, rfl, by decide +kernel, rfl, by decide +kernel, by decide +kernel⟩
abbrev s_law_due_order : Stmt := topS 32
theorem sc_law_due_order : FnScope ["rows", "order"] ["rows"] (defScope s_law_due_order) := ⟨rfl, rfl, rfl, by decide +kernel, rfl, by decide +kernel, by decide +kernel⟩
abbrev s_law : Stmt := topS 33
theorem sc_law : FnScope ["script", "bag", "size", "rows", "costs", "due", "a", "b", "changed", "held", "more", "double", "one", "row"] ["script"] (defScope s_law) := ⟨rfl, rfl, rfl, by decide +kernel, rfl, by decide +kernel, by decide +kernel⟩
structure Txt (K : PySem.W.Frag) (mg : Str → Option Value) where
  C_Costs : Addr
  cl_Costs : Cls K C_Costs
  mg_Costs : mg "Costs" = some (.ref C_Costs)
  na_Costs_size : NoAttr K C_Costs "size"
  na_Costs__table : NoAttr K C_Costs "_table"
  f_Costs___init__ : Addr
  fd_Costs___init__ : FuncData
  F_Costs___init__ : Fun K "__init__" "Costs.__init__" s_Costs___init__ f_Costs___init__ fd_Costs___init__
  b_Costs___init__ : Binds K fd_Costs___init__ ["self", "size"] []
  mk_Costs : Mk K C_Costs f_Costs___init__
  f_Costs___iter__ : Addr
  fd_Costs___iter__ : FuncData
  F_Costs___iter__ : Fun K "__iter__" "Costs.__iter__" s_Costs___iter__ f_Costs___iter__ fd_Costs___iter__
  b_Costs___iter__ : Binds K fd_Costs___iter__ ["self"] []
  f_Costs___getitem__ : Addr
  fd_Costs___getitem__ : FuncData
  F_Costs___getitem__ : Fun K "__getitem__" "Costs.__getitem__" s_Costs___getitem__ f_Costs___getitem__ fd_Costs___getitem__
  b_Costs___getitem__ : Binds K fd_Costs___getitem__ ["self", "at"] []
  ow_Costs___getitem__ : Own K C_Costs "__getitem__" f_Costs___getitem__
  f_Costs___setitem__ : Addr
  fd_Costs___setitem__ : FuncData
  F_Costs___setitem__ : Fun K "__setitem__" "Costs.__setitem__" s_Costs___setitem__ f_Costs___setitem__ fd_Costs___setitem__
  b_Costs___setitem__ : Binds K fd_Costs___setitem__ ["self", "at", "worth"] []
  ow_Costs___setitem__ : Own K C_Costs "__setitem__" f_Costs___setitem__
  f_Costs___add__ : Addr
  fd_Costs___add__ : FuncData
  F_Costs___add__ : Fun K "__add__" "Costs.__add__" s_Costs___add__ f_Costs___add__ fd_Costs___add__
  b_Costs___add__ : Binds K fd_Costs___add__ ["self", "other"] []
  ow_Costs___add__ : Own K C_Costs (PySem.dunder Operator.Add.info.2) f_Costs___add__
  f_Costs___iadd__ : Addr
  fd_Costs___iadd__ : FuncData
  F_Costs___iadd__ : Fun K "__iadd__" "Costs.__iadd__" s_Costs___iadd__ f_Costs___iadd__ fd_Costs___iadd__
  b_Costs___iadd__ : Binds K fd_Costs___iadd__ ["self", "other"] []
  ow_Costs___iadd__ : Own K C_Costs (dunderI Operator.Add.info.2) f_Costs___iadd__
  f_Costs_put : Addr
  fd_Costs_put : FuncData
  F_Costs_put : Fun K "put" "Costs.put" s_Costs_put f_Costs_put fd_Costs_put
  b_Costs_put : Binds K fd_Costs_put ["self", "a", "b", "cost"] []
  me_Costs_put : Meth K C_Costs "put" f_Costs_put
  f_Costs_rows : Addr
  fd_Costs_rows : FuncData
  F_Costs_rows : Fun K "rows" "Costs.rows" s_Costs_rows f_Costs_rows fd_Costs_rows
  b_Costs_rows : Binds K fd_Costs_rows ["self"] []
  me_Costs_rows : Meth K C_Costs "rows" f_Costs_rows
  f_Costs_of : Addr
  fd_Costs_of : FuncData
  F_Costs_of : Fun K "of" "Costs.of" s_Costs_of f_Costs_of fd_Costs_of
  b_Costs_of : Binds K fd_Costs_of ["rows"] []
  p_Costs_of : Addr
  st_Costs_of : SMet K C_Costs (.type "type") "of" p_Costs_of f_Costs_of
  f_least_order : Addr
  fd_least_order : FuncData
  F_least_order : Fun K "least_order" "least_order" s_least_order f_least_order fd_least_order
  g_least_order : mg "least_order" = some (.ref f_least_order)
  b_least_order : Binds K fd_least_order ["costs"] []
  f_subset_table : Addr
  fd_subset_table : FuncData
  F_subset_table : Fun K "subset_table" "subset_table" s_subset_table f_subset_table fd_subset_table
  g_subset_table : mg "subset_table" = some (.ref f_subset_table)
  b_subset_table : Binds K fd_subset_table ["costs"] []
  f_subsets : Addr
  fd_subsets : FuncData
  F_subsets : Fun K "_subsets" "_subsets" s_subsets f_subsets fd_subsets
  g_subsets : mg "_subsets" = some (.ref f_subsets)
  b_subsets : Binds K fd_subsets ["size"] []
  f_without : Addr
  fd_without : FuncData
  F_without : Fun K "_without" "_without" s_without f_without fd_without
  g_without : mg "_without" = some (.ref f_without)
  b_without : Binds K fd_without ["subset", "member"] []
  f_price_with_last : Addr
  fd_price_with_last : FuncData
  F_price_with_last : Fun K "_price_with_last" "_price_with_last" s_price_with_last f_price_with_last fd_price_with_last
  g_price_with_last : mg "_price_with_last" = some (.ref f_price_with_last)
  b_price_with_last : Binds K fd_price_with_last ["rows", "table", "subset", "last"] []
  f_least_first : Addr
  fd_least_first : FuncData
  F_least_first : Fun K "_least_first" "_least_first" s_least_first f_least_first fd_least_first
  g_least_first : mg "_least_first" = some (.ref f_least_first)
  b_least_first : Binds K fd_least_first ["rows", "table", "subset"] []
  f_price_with_first : Addr
  fd_price_with_first : FuncData
  F_price_with_first : Fun K "_price_with_first" "_price_with_first" s_price_with_first f_price_with_first fd_price_with_first
  g_price_with_first : mg "_price_with_first" = some (.ref f_price_with_first)
  b_price_with_first : Binds K fd_price_with_first ["rows", "table", "subset", "first"] []
  f_check_pair : Addr
  fd_check_pair : FuncData
  F_check_pair : Fun K "_check_pair" "_check_pair" s_check_pair f_check_pair fd_check_pair
  g_check_pair : mg "_check_pair" = some (.ref f_check_pair)
  b_check_pair : Binds K fd_check_pair ["size", "a", "b"] []
  f_check_sizes : Addr
  fd_check_sizes : FuncData
  F_check_sizes : Fun K "_check_sizes" "_check_sizes" s_check_sizes f_check_sizes fd_check_sizes
  g_check_sizes : mg "_check_sizes" = some (.ref f_check_sizes)
  b_check_sizes : Binds K fd_check_sizes ["first", "second"] []
  f_copied : Addr
  fd_copied : FuncData
  F_copied : Fun K "_copied" "_copied" s_copied f_copied fd_copied
  g_copied : mg "_copied" = some (.ref f_copied)
  b_copied : Binds K fd_copied ["rows"] []
  f_added : Addr
  fd_added : FuncData
  F_added : Fun K "_added" "_added" s_added f_added fd_added
  g_added : mg "_added" = some (.ref f_added)
  b_added : Binds K fd_added ["first", "second"] []
  f_law_bag : Addr
  fd_law_bag : FuncData
  F_law_bag : Fun K "_law_bag" "_law_bag" s_law_bag f_law_bag fd_law_bag
  g_law_bag : mg "_law_bag" = some (.ref f_law_bag)
  b_law_bag : Binds K fd_law_bag ["script"] []
  f_law_draw : Addr
  fd_law_draw : FuncData
  F_law_draw : Fun K "_law_draw" "_law_draw" s_law_draw f_law_draw fd_law_draw
  g_law_draw : mg "_law_draw" = some (.ref f_law_draw)
  b_law_draw : Binds K fd_law_draw ["bag", "many"] []
  f_law_whole : Addr
  fd_law_whole : FuncData
  F_law_whole : Fun K "_law_whole" "_law_whole" s_law_whole f_law_whole fd_law_whole
  g_law_whole : mg "_law_whole" = some (.ref f_law_whole)
  b_law_whole : Binds K fd_law_whole ["got"] []
  f_law_same : Addr
  fd_law_same : FuncData
  F_law_same : Fun K "_law_same" "_law_same" s_law_same f_law_same fd_law_same
  g_law_same : mg "_law_same" = some (.ref f_law_same)
  b_law_same : Binds K fd_law_same ["got", "due"] []
  f_law_cost_rows : Addr
  fd_law_cost_rows : FuncData
  F_law_cost_rows : Fun K "_law_cost_rows" "_law_cost_rows" s_law_cost_rows f_law_cost_rows fd_law_cost_rows
  g_law_cost_rows : mg "_law_cost_rows" = some (.ref f_law_cost_rows)
  b_law_cost_rows : Binds K fd_law_cost_rows ["bag", "size"] []
  f_law_order_price : Addr
  fd_law_order_price : FuncData
  F_law_order_price : Fun K "_law_order_price" "_law_order_price" s_law_order_price f_law_order_price fd_law_order_price
  g_law_order_price : mg "_law_order_price" = some (.ref f_law_order_price)
  b_law_order_price : Binds K fd_law_order_price ["rows", "order"] []
  f_law_subsets : Addr
  fd_law_subsets : FuncData
  F_law_subsets : Fun K "_law_subsets" "_law_subsets" s_law_subsets f_law_subsets fd_law_subsets
  g_law_subsets : mg "_law_subsets" = some (.ref f_law_subsets)
  b_law_subsets : Binds K fd_law_subsets ["size"] []
  f_law_table : Addr
  fd_law_table : FuncData
  F_law_table : Fun K "_law_table" "_law_table" s_law_table f_law_table fd_law_table
  g_law_table : mg "_law_table" = some (.ref f_law_table)
  b_law_table : Binds K fd_law_table ["rows"] []
  f_law_least_order : Addr
  fd_law_least_order : FuncData
  F_law_least_order : Fun K "_law_least_order" "_law_least_order" s_law_least_order f_law_least_order fd_law_least_order
  g_law_least_order : mg "_law_least_order" = some (.ref f_law_least_order)
  b_law_least_order : Binds K fd_law_least_order ["rows"] []
  f_law_lifted : Addr
  fd_law_lifted : FuncData
  F_law_lifted : Fun K "_law_lifted" "_law_lifted" s_law_lifted f_law_lifted fd_law_lifted
  g_law_lifted : mg "_law_lifted" = some (.ref f_law_lifted)
  b_law_lifted : Binds K fd_law_lifted ["bag", "rows"] []
  f_law_table_made : Addr
  fd_law_table_made : FuncData
  F_law_table_made : Fun K "_law_table_made" "_law_table_made" s_law_table_made f_law_table_made fd_law_table_made
  g_law_table_made : mg "_law_table_made" = some (.ref f_law_table_made)
  b_law_table_made : Binds K fd_law_table_made ["bag", "rows"] []
  f_law_all_orders : Addr
  fd_law_all_orders : FuncData
  F_law_all_orders : Fun K "_law_all_orders" "_law_all_orders" s_law_all_orders f_law_all_orders fd_law_all_orders
  g_law_all_orders : mg "_law_all_orders" = some (.ref f_law_all_orders)
  b_law_all_orders : Binds K fd_law_all_orders ["size"] []
  f_law_first_least : Addr
  fd_law_first_least : FuncData
  F_law_first_least : Fun K "_law_first_least" "_law_first_least" s_law_first_least f_law_first_least fd_law_first_least
  g_law_first_least : mg "_law_first_least" = some (.ref f_law_first_least)
  b_law_first_least : Binds K fd_law_first_least ["rows"] []
  f_law_due_order : Addr
  fd_law_due_order : FuncData
  F_law_due_order : Fun K "_law_due_order" "_law_due_order" s_law_due_order f_law_due_order fd_law_due_order
  g_law_due_order : mg "_law_due_order" = some (.ref f_law_due_order)
  b_law_due_order : Binds K fd_law_due_order ["rows"] []
  n_TypeError : mg "TypeError" = none
  n_abs : mg "abs" = none
  n_bool : mg "bool" = none
  n_dict : mg "dict" = none
  n_enumerate : mg "enumerate" = none
  n_int : mg "int" = none
  n_isinstance : mg "isinstance" = none
  n_len : mg "len" = none
  n_list : mg "list" = none
  n_min : mg "min" = none
  n_range : mg "range" = none
  n_staticmethod : mg "staticmethod" = none
  n_str : mg "str" = none
  n_sum : mg "sum" = none
  n_tuple : mg "tuple" = none
  n_zip : mg "zip" = none
end K29

namespace K29
open PySem PySem.Spec PyProof.Rows L2 D0
local macro_rules | `(tactic| walk_at "neB") => `(tactic| with_reducible first | assumption | (apply Ne.symm; assumption) | (refine' BagAt.ne ?x ?h; (case h => assumption); (case x => assumption)))
local macro_rules | `(tactic| walk_at "hq") => `(tactic| with_reducible first | assumption | exact upd_same | ((first | (refine' hp_new ?nn ?hq; (case nn => assumption)) | (refine' Off.get ?f ?ne ?hq; (case f => assumption); (case ne => walk_at "neB"))); (case hq => walk_at "hq")))
local macro_rules | `(tactic| walk_at "neA") => `(tactic| with_reducible first | (refine' BagAt.ne ?x ?h; (case h => assumption); (case x => assumption)) | (refine' ne_of_none ?x ?h; (case h => assumption); (case x => walk_at "hq")))
local macro_rules | `(tactic| walk_at "ne") => `(tactic| with_reducible first | assumption | (apply Ne.symm; assumption) | walk_at "neA" | (apply Ne.symm; walk_at "neA"))
local macro_rules | `(tactic| walk_at "off") => `(tactic| with_reducible repeat' (first | assumption | exact Off.refl _ _ | apply Off.set | (refine' Off.new ?_ ?h; (case h => assumption)) | (refine' Off.trans ?_ ?f; (case f => assumption))))
local macro_rules | `(tactic| walk_at "hp") => `(tactic| with_reducible first | assumption | exact upd_same | ((first | (refine' hp_new ?nn ?hp; (case nn => assumption)) | (refine' hp_set ?ne ?hp; (case ne => walk_at "ne")) | (refine' Off.get ?f ?ne ?hp; (case f => assumption); (case ne => walk_at "ne"))); (case hp => walk_at "hp")))
local macro_rules | `(tactic| walk_at "sq") => `(tactic| with_reducible first | assumption | (refine' SqL.of ?hh; (case hh => walk_at "hp")) | ((first | (refine' sq_new ?nn ?sq; (case nn => assumption)) | (refine' sq_set ?ne ?sq; (case ne => walk_at "ne")) | (refine' Off.seq ?f ?ne ?sq; (case f => assumption); (case ne => walk_at "ne"))); (case sq => walk_at "sq")))
local macro_rules | `(tactic| walk_at "sqt") => `(tactic| with_reducible first | assumption | (refine' SqT.of ?hh; (case hh => walk_at "hp")) | ((first | (refine' sqt_new ?nn ?sq; (case nn => assumption)) | (refine' sqt_set ?ne ?sq; (case ne => walk_at "ne")) | (refine' Off.seqT ?f ?ne ?sq; (case f => assumption); (case ne => walk_at "ne"))); (case sq => walk_at "sqt")))
/- straight-line steps of a reading -/
local macro_rules | `(tactic| walk_at "at") => `(tactic| first | assumption | rfl | exact atI_nat (j := 0) rfl | exact atI_nat (j := 1) rfl | exact atI_nat (j := 2) rfl | exact at_ints (by omega) (by omega))
local macro_rules | `(tactic| walk_at "sz") => `(tactic| first | assumption | decide | exact sz4 (by omega) | exact sz4' (by omega) | (simp only [List.length_map, List.length_append, List.length_cons, List.length_nil, List.length_range, List.length_replicate]; first | exact sz4 (by omega) | exact sz4' (by omega) | omega))
local macro_rules | `(tactic| walk_at "mul") => `(tactic| first | exact .inr ⟨by decide, by decide⟩ | exact mul_fm (by decide) (by decide) | exact .inl ⟨by omega, by omega⟩ | exact .inr ⟨by omega, by omega⟩)
local macro_rules | `(tactic| walk_at "div") => `(tactic| with_reducible first | exact div97 | exact div3 | exact div2 | exact div_m (by assumption) (by assumption))
local macro_rules | `(tactic| walk_at "nz") => `(tactic| first | decide | omega)
local macro_rules | `(tactic| walk_at "rd") => `(tactic| repeat' walk_at "rd1")
local macro_rules | `(tactic| walk_at "rdA") => `(tactic| with_reducible first
  | refine rd_op ?_
  | refine rd_c ?_
  | refine rd_cb ?_
  | refine rd_cons ?_
  | refine rd_nil ?_
  | refine rd_bl ?_
  | refine rd_ii ?_
  | refine rd_M1 ?_
  | refine rd_M0 ?_
  | refine rd_isS ?_
  | refine rd_test ?_
  | refine rd_B ?_
  | refine rd_and ?_
  | refine rd_or ?_
  | refine rd_not ?_
  | refine rd_andV ?_
  | refine rd_orV ?_
  | refine rd_notV ?_
  | refine rd_ifE ?_
  | refine rd_chain ?_
  | refine rd_seq ?_
  | refine rd_if ?_
  | refine rd_asg ?_
  | refine rd_gname ?_
  | refine rd_gsub ?_
  | refine rd_drop ?_
  | refine rd_ret ?_
  | refine rd_retN ?_
  | refine rd_brk ?_
  | refine rd_cnt ?_
  | refine rd_next ?_
  | refine rd_tup ?_
  | refine rd_lst ?_
  | refine rd_BM ?_
  | refine rd_gcons ?_
  | refine rd_gnil ?_
  | refine rd_sl ?_
  | refine rd_nopart ?_
  | refine rd_part ?_
  | refine rd_un ?_
  | refine rd_call ?_
  | refine rd_callN ?_
  | refine rd_fld ?_
  | refine rd_sfld ?_
  | refine rd_meth ?_
  | refine rd_make ?_
  | refine rd_stat ?_
  | refine rv_stat ?_
  | refine rd_lenSet ?_
  | refine rd_dget ?_
  | refine rd_din ?_
  | refine rd_dnin ?_
  | refine rd_dput ?_
  | refine rd_dnewK ?_
  | refine rd_dnewT ?_
  | refine rd_listRg ?_
  | refine rd_rg1 ?_
  | refine rd_rg2 ?_
  | refine rv_i2 ?_
  | refine rd_yes ?_
  | refine rd_iList ?_
  | refine rd_iTup ?_
  | refine rd_augS ?_
  | refine rv_ipI ?_
  | refine rd_zipA ?_
  | refine rd_enumT ?_
  | refine rd_for ?_
  | refine rd_rng1 ?_
  | refine rd_revL ?_
  | refine rv_addI ?_
  | refine rv_sub ?_
  | refine rv_lt ?_
  | refine rv_le ?_
  | refine rv_gt ?_
  | refine rv_ge ?_
  | refine rv_eqI ?_
  | refine rv_neI ?_
  | refine rv_eqS ?_
  | refine rv_eqB ?_
  | refine rv_neS ?_
  | refine rv_neB ?_
  | refine rv_int ?_
  | refine rv_inS ?_
  | refine rv_isNn ?_
  | refine rv_isNr ?_
  | refine rv_isNi ?_
  | refine rv_isNb ?_
  | refine rv_isNs ?_
  | refine rv_notNn ?_
  | refine rv_notNr ?_
  | refine rv_notNi ?_
  | refine rv_ninS ?_
  | refine rv_abs ?_
  | refine rv_max2 ?_
  | refine rv_min2 ?_
  | refine rv_ord ?_
  | refine rv_neg ?_
  | refine iteT ?_
  | refine iteF ?_
  | refine iteD (fun h => ?_) (fun h => ?_)
  | refine iteND (fun h => ?_) (fun h => ?_))
local macro_rules | `(tactic| walk_at "rd1") => `(tactic| first
  | ((with_reducible refine' rd_andB ?h ?_); (case h => (intro Qe hq; walk_at "rd"; exact hq)))
  | ((with_reducible refine' rd_orB ?h ?_); (case h => (intro Qe hq; walk_at "rd"; exact hq)))
  | walk_at "rdA"
  | ((with_reducible refine' rd_var ?h ?_); (case h => rfl))
  | ((with_reducible refine' rd_wipe ?h ?_); (case h => rfl))
  | ((with_reducible refine' rd_aug ?h ?_); (case h => rfl))
  | ((with_reducible refine' rv_ixL ?h ?c ?_); (case h => walk_at "sq"); (case c => walk_at "at"))
  | ((with_reducible refine' rv_ixS ?h ?c ?_); (case h => walk_at "sz"); (case c => walk_at "at"))
  | ((with_reducible refine' rv_setL ?h ?c ?_); (case h => walk_at "hp"); (case c => rfl))
  | ((with_reducible refine' rv_mulI ?h ?_); (case h => walk_at "mul"))
  | ((with_reducible refine' rv_mod ?h ?_); (case h => walk_at "nz"))
  | ((with_reducible refine' rv_div ?h ?_); (case h => walk_at "div"))
  | ((with_reducible refine' rv_pow ?h ?_); (case h => exact ⟨by decide, by decide, by decide⟩))
  | ((with_reducible refine' rv_get ?h ?h0 ?c ?_); (case h => walk_at "sq"); (case h0 => omega); (case c => walk_at "at"))
  | ((with_reducible refine' rv_lenL ?h ?_); (case h => walk_at "sq"))
  | ((with_reducible refine' rv_lenS ?h ?_); (case h => walk_at "sz"))
  | ((with_reducible refine' rv_addS ?h ?_); (case h => walk_at "sz"))
  | ((with_reducible refine' rd_tyL ?h ?_); (case h => walk_at "sq"))
  | (with_reducible refine rd_tyS ?_)
  | ((with_reducible refine' rv_inL ?h ?hx ?hf ?_); (case h => walk_at "sq"); (case hx => rfl); (case hf => rfl))
  | ((with_reducible refine' rv_ninL ?h ?hx ?hf ?_); (case h => walk_at "sq"); (case hx => rfl); (case hf => rfl))
  | ((with_reducible refine' rv_all ?h ?_); (case h => walk_at "sq"))
  | ((with_reducible refine' rv_addL ?h1 ?h2 ?h3 (fun p hp => ?_)); (case h1 => walk_at "hp"); (case h2 => walk_at "hp"); (case h3 => walk_at "sz"))
  | (with_reducible refine iteB (fun h => ?_) (fun h => ?_))
  | (refine ⟨rfl, rfl, ?_⟩)
  | ((with_reducible refine' rv_up ?h ?_); (case h => omega))
  | ((with_reducible refine' rv_iL ?h ?_); (case h => walk_at "sq"))
  | ((with_reducible refine' rv_iT ?h ?_); (case h => walk_at "sqt"))
  | ((with_reducible refine' rv_listL ?h (fun p hp => ?_)); (case h => walk_at "sq"))
  | ((with_reducible refine' rv_listT ?h (fun p hp => ?_)); (case h => walk_at "sqt"))
  | ((with_reducible refine' rv_tupL ?h (fun p hp => ?_)); (case h => walk_at "sq"))
  | ((with_reducible refine' rv_tupT ?h ?_); (case h => walk_at "sqt"))
  | ((with_reducible refine' rv_ixT ?h ?c ?_); (case h => walk_at "sqt"); (case c => walk_at "at"))
  | ((with_reducible refine' rd_gtup ?h ?c ?_); (case h => walk_at "sqt"); (case c => rfl))
  | ((with_reducible refine' rv_lenT ?h ?_); (case h => walk_at "sqt"))
  | ((with_reducible refine' rv_isiB ?h ?_); (case h => with_reducible first | exact isi_bool_bool | exact isi_bool_int | exact isi_bool_str | exact isi_bool_list | exact isi_bool_tuple | exact isi_bool_dict))
  | ((with_reducible refine' rv_isiI ?h ?_); (case h => with_reducible first | exact isi_int_bool | exact isi_int_int | exact isi_int_str | exact isi_int_list | exact isi_int_tuple | exact isi_int_dict))
  | ((with_reducible refine' rv_isiS ?h ?_); (case h => with_reducible first | exact isi_str_bool | exact isi_str_int | exact isi_str_str | exact isi_str_list | exact isi_str_tuple | exact isi_str_dict))
  | ((with_reducible refine' rv_isiN ?h ?_); (case h => with_reducible first | exact isi_NoneType_bool | exact isi_NoneType_int | exact isi_NoneType_str | exact isi_NoneType_list | exact isi_NoneType_tuple | exact isi_NoneType_dict))
  | ((with_reducible refine' rv_isiL ?e ?h ?_); (case e => walk_at "hp"); (case h => with_reducible first | exact isi_list_bool | exact isi_list_int | exact isi_list_str | exact isi_list_list | exact isi_list_tuple | exact isi_list_dict))
  | ((with_reducible refine' rv_isiT ?e ?h ?_); (case e => walk_at "hp"); (case h => with_reducible first | exact isi_tuple_bool | exact isi_tuple_int | exact isi_tuple_str | exact isi_tuple_list | exact isi_tuple_tuple | exact isi_tuple_dict))
  | ((with_reducible refine' rv_revL ?h ?_); (case h => walk_at "sq"))
  | (with_reducible refine fun (p : Addr) (hp : _ = none) => ?_)
  | ((with_reducible refine' rv_slL ?h (fun p hp => ?_)); (case h => walk_at "sq"))
  | ((with_reducible refine' rv_slS ?h ?_); (case h => walk_at "sz"))
  | ((with_reducible refine' rv_ext ?h ?h2 ?c ?_); (case h => walk_at "hp"); (case h2 => walk_at "hp"); (case c => walk_at "sz"))
  | (refine ⟨(by simp only [List.length_cons, List.length_nil]; decide), fun p hp => ?_⟩)
  | ((with_reducible refine' rv_app ?h ?c ?_); (case h => walk_at "hp"); (case c => walk_at "sz"))
  )
local macro_rules | `(tactic| walk_at "bag") => `(tactic| first | assumption | (refine ⟨_, _, _, _, _, upd_same, (by assumption), ?hp, (by omega), (by omega)⟩; (case hp => walk_at "hp")) | exact ⟨_, _, _, _, _, (by assumption), (by assumption), (by assumption), (by assumption), (by assumption)⟩ | (refine BagAt.new ?_ (by assumption); walk_at "bag") | (refine BagAt.put ?_ (by assumption) (by assumption); walk_at "bag"))

section
variable {P : Program} {w : World} {K : PySem.W.Frag} {mg : Str → Option Value} {base : Heap}
def spCheckPair : Sp := fun vs H Q _ => ∃ (n a b : Nat), vs = [.int n, .int a, .int b] ∧ a < n ∧ b < n ∧ a ≠ b ∧ Q .non H
def spCheckSizes : Sp := fun vs H Q _ => ∃ (n : Nat), vs = [.int n, .int n] ∧ Q .non H
theorem ok_check_pair (T : Txt K mg) : FnOk P w K mg base CX0 1 T.f_check_pair T.fd_check_pair ["size", "a", "b"] spCheckPair := by
  refine T.F_check_pair.ok sc_check_pair (fun vs H Q E h => ?_) (fun cdv A outer s H vs Q E hr h => ?_)
  · obtain ⟨n, a, b, rfl, _⟩ := h
    rfl
  · obtain ⟨n, a, b, rfl, ha, hb, ne, q⟩ := h
    refine ⟨_, (pss_one (ps_if (PW.pt (pw_or (pt_cmpR dEq (pv 1) (pv 2) (nomark _)) (pw_or (pt_not (pt_chain dLe dLt pe_int (pv 1) (pv 0))) (pw_or1 (pt_not (pt_chain dLe dLt pe_int (pv 2) (pv 0))))))) pss_never pss_nil)), ?_⟩
    walk_at "rd"
    all_goals first | exact q | (exfalso; omega)
theorem ok_check_sizes (T : Txt K mg) : FnOk P w K mg base CX0 1 T.f_check_sizes T.fd_check_sizes ["first", "second"] spCheckSizes := by
  refine T.F_check_sizes.ok sc_check_sizes (fun vs H Q E h => ?_) (fun cdv A outer s H vs Q E hr h => ?_)
  · obtain ⟨n, rfl, _⟩ := h
    rfl
  · obtain ⟨n, rfl, q⟩ := h
    refine ⟨_, (pss_one (ps_if (pt_cmpR dNe (pv 0) (pv 1) (nomark _)) pss_never pss_nil)), ?_⟩
    walk_at "rd"
    all_goals first | exact q | (exfalso; omega)
def spInit (C : Addr) : Sp := fun vs H Q _ => ∃ (p dx : Addr) (n : Nat), vs = [.ref p, .int n] ∧ n ≤ 1000 ∧ H p = some (.ins C dx []) ∧ ∀ H' t rs, (∀ b o, H b = some o → b ≠ p → H' b = some o) → CostsAt C H' p n t rs (mkT n fun _ _ => 0) → H t = none → (∀ r ∈ rs, H r = none) → Q .non H'
theorem ok_Costs___init__ (T : Txt K mg) : FnOk P w K mg base CX0 1 T.f_Costs___init__ T.fd_Costs___init__ ["self", "size"] (spInit T.C_Costs) := by
  refine T.F_Costs___init__.ok sc_Costs___init__ (fun vs H Q E h => ?_) (fun cdv A outer s H vs Q E hr h => ?_)
  · obtain ⟨p, dx, n, rfl, _⟩ := h
    rfl
  · obtain ⟨p, dx, n, rfl, hn, hp, q⟩ := h
    refine ⟨_, (pss_cons (ps_fld (pv 0) (pv 1) rfl)
   (pss_one (ps_fld (pv 0) (pe_lc (own := [("_", 2)]) (g := gName 2) (tt := tYes) rfl sc_Costs___init__.nd  (pi_range1 rfl T.n_range (pa_cons (pv 1) pa_nil)) (blkOk_by (own := [("_", 2)]) (N := ["self", "size", "_"]) (sc := defScope s_Costs___init__) (by decide +kernel)) (fun _ _ _ _ _ => (pg_name (i := 2) sc_Costs___init__.nd rfl (by first | exact Or.inl rfl | exact Or.inr rfl))) (fun _ _ _ _ _ => pts_nil) (fun _ _ _ _ _ => (pe_op dMul (pe_lst (pa_cons pe_int pa_nil)) (pv 1)))) rfl))), ?_⟩
    walk_at "rd"
    refine rv_sfld hp T.cl_Costs T.na_Costs_size (by show 0 < 1000; decide) ?_
    have ep : (upd H p (.ins T.C_Costs dx (putF "size" (.int n) []))) p = some (.ins T.C_Costs dx (putF "size" (.int n) [])) := upd_same
    have kp : ∀ b o, H b = some o → b ≠ p → (upd H p (.ins T.C_Costs dx (putF "size" (.int n) []))) b = some o := fun b o e nb => (upd_ne nb).trans e
    have fr : ∀ x, (upd H p (.ins T.C_Costs dx (putF "size" (.int n) []))) x = none → H x = none := fun x e => by
      by_cases h : x = p
      · subst h; rw [ep] at e; cases e
      · rw [upd_ne h] at e; exact e
    generalize (upd H p (.ins T.C_Costs dx (putF "size" (.int n) []))) = H1 at ep kp fr
    walk_at "rd"
    refine rd_lc ?_
    walk_at "rd"
    refine ⟨_, rfl, by omega, by omega, ?_⟩
    rw [show ((n : Int)).toNat = n by omega]
    refine lc_fresh (walk_range (lo := 0) (n := n)) (fun _ => List.replicate n 0) (by omega) (fun _ _ => trivial) same_fn ?_ ?_
    · rintro i x H' H2 Nx E hi s s2 ⟨rfl, rfl⟩ hN
      walk_at "rd"
      rename_i z hz
      refine rv_rep upd_same ⟨by omega, by omega, by simp; exact sz4 (by omega)⟩ (fun r hr => ?_)
      rw [rep_map n _ rfl]
      exact hN r _ ((same_upd hz).trans (same_upd hr)) ((same_upd hz).free hr) upd_same
    · intro D rs H2 hD s e pr nd fr2
      have ep2 := s _ _ ep
      have Dp : D ≠ p := (ne_of_none ep hD).symm
      walk_at "rd"
      refine rv_sfld ep2 T.cl_Costs T.na_Costs__table (by show 1 < 1000; decide) ?_
      walk_at "rd"
      refine q _ D rs (fun b o eb nb => hp_set nb (s _ _ (kp b o eb nb))) ⟨⟨dx, upd_same⟩, ⟨hp_set Dp e, ?_⟩, mkT_len .., mkT_sq _ _, nd, fun h => (fr2 D h).2 rfl⟩ (fr D hD) fun r hr => fr r (fr2 r hr).1
      refine Paired.of_get (by rw [mkT_len, Paired.len pr, List.length_range]) fun i r row h1 h2 => ?_
      obtain ⟨i2, e2, h3⟩ := Paired.get1 pr h1
      have hi : i < n := by rw [← List.length_range (n := n), ← Paired.len pr]; exact (List.getElem?_eq_some_iff.mp h1).1
      rw [mkT_get _ hi, List.map_const', List.length_range] at h2
      cases h2
      have rp : r ≠ p := (ne_of_none ep (fr2 r (List.mem_of_getElem? h1)).1).symm
      exact hp_set rp h3
def spGetItem (C : Addr) : Sp := fun vs H Q _ => ∃ (p k : Addr) (n x y : Nat) (t : Addr) (rs : List Addr) (tab : List (List Int)), vs = [.ref p, .ref k] ∧ H k = some (.tup [.int x, .int y]) ∧ CostsAt C H p n t rs tab ∧ x < n ∧ y < n ∧ x ≠ y ∧ Q (.int (gT tab x y)) H
theorem ok_Costs___getitem__ (T : Txt K mg) : FnOk P w K mg base CX0 2 T.f_Costs___getitem__ T.fd_Costs___getitem__ ["self", "at"] (spGetItem T.C_Costs) := by
  refine T.F_Costs___getitem__.ok sc_Costs___getitem__ (fun vs H Q E h => ?_) (fun cdv A outer s H vs Q E hr h => ?_)
  · obtain ⟨p, k, n, x, y, t, rs, tab, rfl, _⟩ := h
    rfl
  · obtain ⟨p, k, n, x, y, t, rs, tab, rfl, ek, CA, hx, hy, ne, q⟩ := h
    obtain ⟨dx, ob⟩ := CA.ob
    have hxt : x < tab.length := by rw [CA.sz]; exact hx
    have hrow := CA.sq _ (List.getElem_mem hxt)
    obtain ⟨r, er, ehr, ar⟩ := CA.tb.get (List.getElem?_eq_getElem hxt)
    have a2 : atI ((tab[x]).map V.int) (y : Int) = some (.int (gT tab x y)) := by
      rw [gT_row (List.getElem?_eq_getElem hxt)]
      refine atI_nat ?_
      rw [List.getElem?_map, List.getElem?_eq_getElem (by omega), List.getD_eq_getElem?_getD, List.getElem?_eq_getElem (by omega)]; rfl
    have et := CA.tb.tb
    refine ⟨_, (pss_cons (ps_asg (pv 1) (dpg_tup K (n := 2) (by rfl) (pgs_cons (pg_name (i := 2) sc_Costs___getitem__.nd rfl (by first | exact Or.inl rfl | exact Or.inr rfl)) (pgs_cons (pg_name (i := 3) sc_Costs___getitem__.nd rfl (by first | exact Or.inl rfl | exact Or.inr rfl)) pgs_nil))))
   (pss_cons (ps_expr (pe_call (ok_check_pair T) (hr.mono (by omega)) (by rfl) T.g_check_pair T.F_check_pair.kp T.b_check_pair .nil pass0 (pa_cons (pe_fld (pv 0) rfl) (pa_cons (pv 2) (pa_cons (pv 3) pa_nil)))))
   (pss_one (ps_ret (pe_ix (dIx K) (pe_ix (dIx K) (pe_fld (pv 0) rfl) (pv 2) (fun _ _ => rfl)) (pv 3) (fun _ _ => rfl)))))), ?_⟩
    walk_at "rd"
    refine rv_fld ob T.cl_Costs T.na_Costs_size (cF_size _ _) ?_
    walk_at "rd"
    refine ⟨n, x, y, rfl, hx, hy, ne, ?_⟩
    walk_at "rd"
    refine rv_fld ob T.cl_Costs T.na_Costs__table (cF_table _ _) ?_
    walk_at "rd"
    exact q
def spPut (C : Addr) : Sp := fun vs H Q _ => ∃ (p : Addr) (n x y : Nat) (c : Int) (t : Addr) (rs : List Addr) (tab : List (List Int)), vs = [.ref p, .int x, .int y, .int c] ∧ CostsAt C H p n t rs tab ∧ x < n ∧ y < n ∧ x ≠ y ∧
  ∀ H' r, r ∈ rs → OffS [r] H H' → CostsAt C H' p n t rs (putT tab x y c) → Q .non H'
theorem ok_Costs_put (T : Txt K mg) : FnOk P w K mg base CX0 2 T.f_Costs_put T.fd_Costs_put ["self", "a", "b", "cost"] (spPut T.C_Costs) := by
  refine T.F_Costs_put.ok sc_Costs_put (fun vs H Q E h => ?_) (fun cdv A outer s H vs Q E hr h => ?_)
  · obtain ⟨p, n, x, y, c, t, rs, tab, rfl, _⟩ := h
    rfl
  · obtain ⟨p, n, x, y, c, t, rs, tab, rfl, CA, hx, hy, ne, q⟩ := h
    obtain ⟨dx, ob⟩ := CA.ob
    have hxt : x < tab.length := by rw [CA.sz]; exact hx
    have hrow := CA.sq _ (List.getElem_mem hxt)
    obtain ⟨r, er, ehr, ar⟩ := CA.tb.get (List.getElem?_eq_getElem hxt)
    have et := CA.tb.tb
    have hm := List.mem_of_getElem? er
    refine ⟨_, (pss_cons (ps_expr (pe_call (ok_check_pair T) (hr.mono (by omega)) (by rfl) T.g_check_pair T.F_check_pair.kp T.b_check_pair .nil pass0 (pa_cons (pe_fld (pv 0) rfl) (pa_cons (pv 1) (pa_cons (pv 2) pa_nil)))))
   (pss_one (ps_asg (pv 3) (pg_sub (pe_ix (dIx K) (pe_fld (pv 0) rfl) (pv 1) (fun _ _ => rfl)) (pv 2) set_list)))), ?_⟩
    walk_at "rd"
    refine rv_fld ob T.cl_Costs T.na_Costs_size (cF_size _ _) ?_
    walk_at "rd"
    refine ⟨n, x, y, rfl, hx, hy, ne, ?_⟩
    walk_at "rd"
    refine rv_fld ob T.cl_Costs T.na_Costs__table (cF_table _ _) ?_
    walk_at "rd"
    refine rv_setL ehr (by rw [List.length_map]; exact ixN_of (by omega)) ?_
    rw [setm_int]
    walk_at "rd"
    have e0 : tab.getD x [] = tab[x] := getD_of (List.getElem?_eq_getElem hxt)
    refine q _ r hm ((OffS.refl _ _).set (by simp)) ⟨⟨dx, hp_set (ne_of ob ehr (fun z => nomatch z)) ob⟩, ?_, ?_, ?_, CA.nd, CA.nt⟩
    · unfold putT
      rw [e0]
      exact CA.tb.put CA.nd CA.nt er _
    · unfold putT; rw [List.length_set]; exact CA.sz
    · intro row hr'
      rcases List.mem_or_eq_of_mem_set hr' with h | h
      · exact CA.sq row h
      · rw [h, List.length_set, e0]; exact hrow
def spSetItem (C : Addr) : Sp := fun vs H Q _ => ∃ (p k : Addr) (n x y : Nat) (c : Int) (t : Addr) (rs : List Addr) (tab : List (List Int)), vs = [.ref p, .ref k, .int c] ∧ H k = some (.tup [.int x, .int y]) ∧ CostsAt C H p n t rs tab ∧ x < n ∧ y < n ∧ x ≠ y ∧
  ∀ H' r, r ∈ rs → OffS [r] H H' → CostsAt C H' p n t rs (putT tab x y c) → Q .non H'
theorem ok_Costs___setitem__ (T : Txt K mg) : FnOk P w K mg base CX0 3 T.f_Costs___setitem__ T.fd_Costs___setitem__ ["self", "at", "worth"] (spSetItem T.C_Costs) := by
  refine T.F_Costs___setitem__.ok sc_Costs___setitem__ (fun vs H Q E h => ?_) (fun cdv A outer s H vs Q E hr h => ?_)
  · obtain ⟨p, k, n, x, y, c, t, rs, tab, rfl, _⟩ := h
    rfl
  · obtain ⟨p, k, n, x, y, c, t, rs, tab, rfl, ek, CA, hx, hy, ne, q⟩ := h
    obtain ⟨dx, ob⟩ := CA.ob
    refine ⟨_, (pss_cons (ps_asg (pv 1) (dpg_tup K (n := 2) (by rfl) (pgs_cons (pg_name (i := 3) sc_Costs___setitem__.nd rfl (by first | exact Or.inl rfl | exact Or.inr rfl)) (pgs_cons (pg_name (i := 4) sc_Costs___setitem__.nd rfl (by first | exact Or.inl rfl | exact Or.inr rfl)) pgs_nil))))
   (pss_one (ps_expr (pe_meth (pv 0) T.cl_Costs T.me_Costs_put (ok_Costs_put T) (hr.mono (by omega)) T.b_Costs_put .nil pass0 (pa_cons (pv 3) (pa_cons (pv 4) (pa_cons (pv 2) pa_nil))))))), ?_⟩
    walk_at "rd"
    refine rv_meth ob (cF_no _ _ (by decide +kernel) (by decide +kernel)) ?_
    walk_at "rd"
    refine ⟨p, n, x, y, c, t, rs, tab, rfl, CA, hx, hy, ne, fun H' r hr' f CA' => ?_⟩
    walk_at "rd"
    exact q H' r hr' f CA'
def spRows (C : Addr) : Sp := fun vs H Q _ => ∃ (p : Addr) (n : Nat) (t : Addr) (rs : List Addr) (tab : List (List Int)), vs = [.ref p] ∧ n ≤ 1000 ∧ CostsAt C H p n t rs tab ∧
  ∀ H' u ps, Same H H' → H' u = some (.tup (ps.map V.ref)) → Paired (fun x row => H' x = some (.tup (row.map V.int))) ps tab → Q (.ref u) H'
theorem ok_Costs_rows (T : Txt K mg) : FnOk P w K mg base CX0 1 T.f_Costs_rows T.fd_Costs_rows ["self"] (spRows T.C_Costs) := by
  refine T.F_Costs_rows.ok sc_Costs_rows (fun vs H Q E h => ?_) (fun cdv A outer s H vs Q E hr h => ?_)
  · obtain ⟨p, n, t, rs, tab, rfl, _⟩ := h
    rfl
  · obtain ⟨p, n, t, rs, tab, rfl, hn, CA, q⟩ := h
    obtain ⟨dx, ob⟩ := CA.ob
    have et := CA.tb.tb
    have lr := CA.tb.len
    have lt := CA.sz
    refine ⟨_, (pss_one (ps_ret (pe_callTy (dTuple K) (by rfl) T.n_tuple (by decide +kernel) (pa_cons (pe_lc (own := [("row", 1)]) (g := gName 1) (tt := tYes) rfl sc_Costs_rows.nd  (dpi_list K (pe_fld (pv 0) rfl)) (blkOk_by (own := [("row", 1)]) (N := ["self", "row"]) (sc := defScope s_Costs_rows) (by decide +kernel)) (fun _ _ _ _ _ => (pg_name (i := 1) sc_Costs_rows.nd rfl (by first | exact Or.inl rfl | exact Or.inr rfl))) (fun _ _ _ _ _ => pts_nil) (fun _ _ _ _ _ => (pe_callTy (dTuple K) (by rfl) T.n_tuple (by decide +kernel) (pa_cons (pv 1) pa_nil)))) pa_nil)))), ?_⟩
    walk_at "rd"
    refine rd_lc ?_
    walk_at "rd"
    refine rv_fld ob T.cl_Costs T.na_Costs__table (cF_table _ _) ?_
    walk_at "rd"
    refine lc_pureT (walk_list (K := K) (a := t) (xs := rs.map V.ref)) tab (fun H y row => ∃ x, y = .ref x ∧ H x = some (.tup (row.map V.int))) (by rw [List.length_map]; exact lr) (by rw [List.length_map]; omega) (fun H' s => SqL.of (s _ _ et)) same_at (fun H1 H2 y r ts ⟨x, e, h⟩ => ⟨x, e, ts _ _ h⟩) ?_ ?_
    · rintro i row x H' H2 Nx E er s s2 ⟨rfl, hx⟩ hN
      obtain ⟨r, e1, e2, _⟩ := CA.tb.get er
      rw [List.getElem?_map, e1] at hx
      cases hx
      have e3 := s _ _ e2
      walk_at "rd"
      rename_i z hz
      exact hN _ _ (same_upd hz) ⟨z, rfl, upd_same⟩
    · intro D ys H2 hD s e pr
      obtain ⟨ps, rfl, pp⟩ := refs_of pr
      walk_at "rd"
      rename_i u hu
      exact q _ u ps (s.trans (same_upd hu)) upd_same (Paired.mapP pp fun _ _ h => hp_new hu h)
def spCopied : Sp := fun vs H Q _ => ∃ (v : V) (n : Nat) (tab : List (List Int)), vs = [v] ∧ RowsLike H v tab ∧ tab.length = n ∧ (∀ row ∈ tab, row.length = n) ∧ n ≤ 1000 ∧
  ∀ H' D rs, Same H H' → H D = none → TabAt H' D rs (zeroD tab n) → rs.Nodup → (∀ r ∈ rs, H r = none ∧ r ≠ D) → Q (.ref D) H'
theorem ok_copied (T : Txt K mg) : FnOk P w K mg base CX0 1 T.f_copied T.fd_copied ["rows"] spCopied := by
  refine T.F_copied.ok sc_copied (fun vs H Q E h => ?_) (fun cdv A outer s H vs Q E hr h => ?_)
  · obtain ⟨v, n, tab, rfl, _⟩ := h
    rfl
  · obtain ⟨v, n, tab, rfl, ⟨a, xs, rfl, ea, px⟩, ht, hsq, hn, q⟩ := h
    have lx : xs.length = n := by rw [Paired.len px, ht]
    refine ⟨_, (pss_one (ps_ret (pe_lc (own := [("a", 3), ("row", 4)]) (g := gTup K 2 (gCons (gName 3) (gCons (gName 4) (gNil)))) (tt := tYes) rfl sc_copied.nd  (dpi_enumA K (by rfl) T.n_enumerate (pa_cons (pv 0) pa_nil)) (blkOk_by (own := [("a", 3), ("row", 4)]) (N := ["rows", "b", "cost", "a", "row"]) (sc := defScope s_copied) (by decide +kernel)) (fun _ _ _ _ _ => (dpg_tup K (n := 2) (by rfl) (pgs_cons (pg_name (i := 3) sc_copied.nd rfl (by first | exact Or.inl rfl | exact Or.inr rfl)) (pgs_cons (pg_name (i := 4) sc_copied.nd rfl (by first | exact Or.inl rfl | exact Or.inr rfl)) pgs_nil)))) (fun _ _ _ _ _ => pts_nil) (fun _ _ _ _ _ => (pe_lc (own := [("b", 1), ("cost", 2)]) (g := gTup K 2 (gCons (gName 1) (gCons (gName 2) (gNil)))) (tt := tYes) rfl sc_copied.nd  (dpi_enumA K (by rfl) T.n_enumerate (pa_cons (pv 4) pa_nil)) (blkOk_by (own := [("b", 1), ("cost", 2)]) (N := ["rows", "b", "cost", "a", "row"]) (by rfl)) (fun _ _ _ _ _ => (dpg_tup K (n := 2) (by rfl) (pgs_cons (pg_name (i := 1) sc_copied.nd rfl (by first | exact Or.inl rfl | exact Or.inr rfl)) (pgs_cons (pg_name (i := 2) sc_copied.nd rfl (by first | exact Or.inl rfl | exact Or.inr rfl)) pgs_nil)))) (fun _ _ _ _ _ => pts_nil) (fun _ _ _ _ _ => (pe_ifExp (pt_cmpR dNe (pv 3) (pv 1) (nomark _)) (pv 2) pe_int))))))), ?_⟩
    walk_at "rd"
    refine rd_lc ?_
    rcases ea with ea | ea
    · refine .inl ?_
      refine rd_enumL ?_
      walk_at "rd"
      refine ⟨a, xs, rfl, SqL.of ea, ?_⟩
      refine lc_fresh (walk_enum (K := K) (a := a) (xs := xs)) (fun i => (List.range n).map fun b => if i ≠ b then gT tab i b else 0) (by omega) (fun H' s => SqL.of (s _ _ ea)) same_pair ?_ ?_
      · rintro i x H' H2 Nx E hi s s2 ⟨T2, u, v, rfl, hT, rfl, hu, hx⟩ hN
        cases hu
        obtain ⟨row, erow, rr', rfl, er⟩ := Paired.get1 px hx
        have hrow := hsq row (List.mem_of_getElem? erow)
        walk_at "rd"
        refine rd_lc ?_
        have er2 : ((upd H' T2 (.tup [.int (i : Nat), .ref rr'])) rr' = some (.lst (row.map V.int)) ∨ (upd H' T2 (.tup [.int (i : Nat), .ref rr'])) rr' = some (.tup (row.map V.int))) := er.imp (fun h => hp_new hT (s _ _ h)) (fun h => hp_new hT (s _ _ h))
        rcases er2 with er2 | er2
        · refine .inl ?_
          refine rd_enumL ?_
          walk_at "rd"
          refine ⟨rr', row.map V.int, rfl, SqL.of er2, ?_⟩
          refine lc_pureF (walk_enum (K := K) (a := rr') (xs := row.map V.int)) (fun _ => true) (fun b => .int (if i ≠ b then row.getD b 0 else 0)) (by rw [List.length_map]; omega) (fun H' s => SqL.of (s _ _ er2)) same_pair ?_ ?_
          · rintro b x H3 H4 Nx' E' hb s3 s4 ⟨T3, u', v', rfl, hT3, rfl, hu', hx'⟩ hN' _
            cases hu'
            rw [List.length_map] at hb
            replace hx' : (row.map V.int)[b]? = some v' := hx'
            rw [List.getElem?_map, List.getElem?_eq_getElem hb] at hx'
            cases hx'
            have gb : row.getD b 0 = row[b] := by rw [List.getD_eq_getElem?_getD, List.getElem?_eq_getElem hb]; rfl
            rw [gb] at hN'
            walk_at "rd"
            · rename_i h1
              rw [if_pos (by intro e; exact h1 (by rw [e]))] at hN'
              exact hN' rfl _ fun _ _ e => e
            · rename_i h1
              rw [if_neg (by intro e; exact e (by omega))] at hN'
              exact hN' rfl _ fun _ _ e => e
          · intro D2 H3 hD2 s3 e3
            refine hN D2 H3 s3 hD2 ?_
            rw [e3, List.length_map]
            exact congrArg (fun l => some (HO.lst l)) ((row_list hrow (fun b c => if i ≠ b then c else 0)).trans (congrArg (List.map V.int) (List.map_congr_left fun b _ => by rw [gT_row erow])))
        · refine .inr ?_
          refine rd_enumT ?_
          walk_at "rd"
          refine ⟨rr', row.map V.int, rfl, SqT.of er2, ?_⟩
          refine lc_pureF (walk_enumT (K := K) (a := rr') (xs := row.map V.int)) (fun _ => true) (fun b => .int (if i ≠ b then row.getD b 0 else 0)) (by rw [List.length_map]; omega) (fun H' s => SqT.of (s _ _ er2)) same_pair ?_ ?_
          · rintro b x H3 H4 Nx' E' hb s3 s4 ⟨T3, u', v', rfl, hT3, rfl, hu', hx'⟩ hN' _
            cases hu'
            rw [List.length_map] at hb
            replace hx' : (row.map V.int)[b]? = some v' := hx'
            rw [List.getElem?_map, List.getElem?_eq_getElem hb] at hx'
            cases hx'
            have gb : row.getD b 0 = row[b] := by rw [List.getD_eq_getElem?_getD, List.getElem?_eq_getElem hb]; rfl
            rw [gb] at hN'
            walk_at "rd"
            · rename_i h1
              rw [if_pos (by intro e; exact h1 (by rw [e]))] at hN'
              exact hN' rfl _ fun _ _ e => e
            · rename_i h1
              rw [if_neg (by intro e; exact e (by omega))] at hN'
              exact hN' rfl _ fun _ _ e => e
          · intro D2 H3 hD2 s3 e3
            refine hN D2 H3 s3 hD2 ?_
            rw [e3, List.length_map]
            exact congrArg (fun l => some (HO.lst l)) ((row_list hrow (fun b c => if i ≠ b then c else 0)).trans (congrArg (List.map V.int) (List.map_congr_left fun b _ => by rw [gT_row erow])))
      · intro D rs H2 hD s e pr nd fr
        walk_at "rd"
        rw [lx] at pr
        exact q H2 D rs s hD ⟨e, pairs_mkT pr⟩ nd fr
    · refine .inr ?_
      refine rd_enumT ?_
      walk_at "rd"
      refine ⟨a, xs, rfl, SqT.of ea, ?_⟩
      refine lc_fresh (walk_enumT (K := K) (a := a) (xs := xs)) (fun i => (List.range n).map fun b => if i ≠ b then gT tab i b else 0) (by omega) (fun H' s => SqT.of (s _ _ ea)) same_pair ?_ ?_
      · rintro i x H' H2 Nx E hi s s2 ⟨T2, u, v, rfl, hT, rfl, hu, hx⟩ hN
        cases hu
        obtain ⟨row, erow, rr', rfl, er⟩ := Paired.get1 px hx
        have hrow := hsq row (List.mem_of_getElem? erow)
        walk_at "rd"
        refine rd_lc ?_
        have er2 : ((upd H' T2 (.tup [.int (i : Nat), .ref rr'])) rr' = some (.lst (row.map V.int)) ∨ (upd H' T2 (.tup [.int (i : Nat), .ref rr'])) rr' = some (.tup (row.map V.int))) := er.imp (fun h => hp_new hT (s _ _ h)) (fun h => hp_new hT (s _ _ h))
        rcases er2 with er2 | er2
        · refine .inl ?_
          refine rd_enumL ?_
          walk_at "rd"
          refine ⟨rr', row.map V.int, rfl, SqL.of er2, ?_⟩
          refine lc_pureF (walk_enum (K := K) (a := rr') (xs := row.map V.int)) (fun _ => true) (fun b => .int (if i ≠ b then row.getD b 0 else 0)) (by rw [List.length_map]; omega) (fun H' s => SqL.of (s _ _ er2)) same_pair ?_ ?_
          · rintro b x H3 H4 Nx' E' hb s3 s4 ⟨T3, u', v', rfl, hT3, rfl, hu', hx'⟩ hN' _
            cases hu'
            rw [List.length_map] at hb
            replace hx' : (row.map V.int)[b]? = some v' := hx'
            rw [List.getElem?_map, List.getElem?_eq_getElem hb] at hx'
            cases hx'
            have gb : row.getD b 0 = row[b] := by rw [List.getD_eq_getElem?_getD, List.getElem?_eq_getElem hb]; rfl
            rw [gb] at hN'
            walk_at "rd"
            · rename_i h1
              rw [if_pos (by intro e; exact h1 (by rw [e]))] at hN'
              exact hN' rfl _ fun _ _ e => e
            · rename_i h1
              rw [if_neg (by intro e; exact e (by omega))] at hN'
              exact hN' rfl _ fun _ _ e => e
          · intro D2 H3 hD2 s3 e3
            refine hN D2 H3 s3 hD2 ?_
            rw [e3, List.length_map]
            exact congrArg (fun l => some (HO.lst l)) ((row_list hrow (fun b c => if i ≠ b then c else 0)).trans (congrArg (List.map V.int) (List.map_congr_left fun b _ => by rw [gT_row erow])))
        · refine .inr ?_
          refine rd_enumT ?_
          walk_at "rd"
          refine ⟨rr', row.map V.int, rfl, SqT.of er2, ?_⟩
          refine lc_pureF (walk_enumT (K := K) (a := rr') (xs := row.map V.int)) (fun _ => true) (fun b => .int (if i ≠ b then row.getD b 0 else 0)) (by rw [List.length_map]; omega) (fun H' s => SqT.of (s _ _ er2)) same_pair ?_ ?_
          · rintro b x H3 H4 Nx' E' hb s3 s4 ⟨T3, u', v', rfl, hT3, rfl, hu', hx'⟩ hN' _
            cases hu'
            rw [List.length_map] at hb
            replace hx' : (row.map V.int)[b]? = some v' := hx'
            rw [List.getElem?_map, List.getElem?_eq_getElem hb] at hx'
            cases hx'
            have gb : row.getD b 0 = row[b] := by rw [List.getD_eq_getElem?_getD, List.getElem?_eq_getElem hb]; rfl
            rw [gb] at hN'
            walk_at "rd"
            · rename_i h1
              rw [if_pos (by intro e; exact h1 (by rw [e]))] at hN'
              exact hN' rfl _ fun _ _ e => e
            · rename_i h1
              rw [if_neg (by intro e; exact e (by omega))] at hN'
              exact hN' rfl _ fun _ _ e => e
          · intro D2 H3 hD2 s3 e3
            refine hN D2 H3 s3 hD2 ?_
            rw [e3, List.length_map]
            exact congrArg (fun l => some (HO.lst l)) ((row_list hrow (fun b c => if i ≠ b then c else 0)).trans (congrArg (List.map V.int) (List.map_congr_left fun b _ => by rw [gT_row erow])))
      · intro D rs H2 hD s e pr nd fr
        walk_at "rd"
        rw [lx] at pr
        exact q H2 D rs s hD ⟨e, pairs_mkT pr⟩ nd fr
def spAdded : Sp := fun vs H Q _ => ∃ (n : Nat) (t1 t2 : Addr) (rs1 rs2 : List Addr) (tab1 tab2 : List (List Int)), vs = [.ref t1, .ref t2] ∧ TabAt H t1 rs1 tab1 ∧ TabAt H t2 rs2 tab2 ∧ tab1.length = n ∧ tab2.length = n ∧ (∀ row ∈ tab1, row.length = n) ∧ (∀ row ∈ tab2, row.length = n) ∧ n ≤ 1000 ∧
  ∀ H' D rs, Same H H' → H D = none → TabAt H' D rs (addT n tab1 tab2) → rs.Nodup → (∀ r ∈ rs, H r = none ∧ r ≠ D) → Q (.ref D) H'
theorem ok_added (T : Txt K mg) : FnOk P w K mg base CX0 1 T.f_added T.fd_added ["first", "second"] spAdded := by
  refine T.F_added.ok sc_added (fun vs H Q E h => ?_) (fun cdv A outer s H vs Q E hr h => ?_)
  · obtain ⟨n, t1, t2, rs1, rs2, tab1, tab2, rfl, _⟩ := h
    rfl
  · obtain ⟨n, t1, t2, rs1, rs2, tab1, tab2, rfl, T1, T2, l1, l2, sq1, sq2, hn, q⟩ := h
    have lr1 := T1.len
    have lr2 := T2.len
    refine ⟨_, (pss_one (ps_ret (pe_lc (own := [("one", 4), ("other", 5)]) (g := gTup K 2 (gCons (gName 4) (gCons (gName 5) (gNil)))) (tt := tYes) rfl sc_added.nd  (dpi_zipA K (by rfl) T.n_zip (pa_cons (pv 0) (pa_cons (pv 1) pa_nil))) (blkOk_by (own := [("one", 4), ("other", 5)]) (N := ["first", "second", "x", "y", "one", "other"]) (sc := defScope s_added) (by decide +kernel)) (fun _ _ _ _ _ => (dpg_tup K (n := 2) (by rfl) (pgs_cons (pg_name (i := 4) sc_added.nd rfl (by first | exact Or.inl rfl | exact Or.inr rfl)) (pgs_cons (pg_name (i := 5) sc_added.nd rfl (by first | exact Or.inl rfl | exact Or.inr rfl)) pgs_nil)))) (fun _ _ _ _ _ => pts_nil) (fun _ _ _ _ _ => (pe_lc (own := [("x", 2), ("y", 3)]) (g := gTup K 2 (gCons (gName 2) (gCons (gName 3) (gNil)))) (tt := tYes) rfl sc_added.nd  (dpi_zipA K (by rfl) T.n_zip (pa_cons (pv 4) (pa_cons (pv 5) pa_nil))) (blkOk_by (own := [("x", 2), ("y", 3)]) (N := ["first", "second", "x", "y", "one", "other"]) (by rfl)) (fun _ _ _ _ _ => (dpg_tup K (n := 2) (by rfl) (pgs_cons (pg_name (i := 2) sc_added.nd rfl (by first | exact Or.inl rfl | exact Or.inr rfl)) (pgs_cons (pg_name (i := 3) sc_added.nd rfl (by first | exact Or.inl rfl | exact Or.inr rfl)) pgs_nil)))) (fun _ _ _ _ _ => pts_nil) (fun _ _ _ _ _ => (pe_op (dAdd K) (pv 2) (pv 3)))))))), ?_⟩
    walk_at "rd"
    refine rd_lc ?_
    walk_at "rd"
    refine ⟨t1, t2, _, _, rfl, .inl ⟨SqL.of T1.tb, SqL.of T2.tb, ?_⟩⟩
    refine lc_fresh (walk_zip (K := K) (a := t1) (b := t2) (xs := rs1.map V.ref) (ys := rs2.map V.ref) (n := n) (by rw [List.length_map, List.length_map]; omega)) (fun i => (List.range n).map fun b => gT tab1 i b + gT tab2 i b) (by omega) (fun H' s => ⟨SqL.of (s _ _ T1.tb), SqL.of (s _ _ T2.tb)⟩) same_pair ?_ ?_
    · rintro i x H' H2 Nx E hi s s2 ⟨T3, u, v, rfl, hT, rfl, hu, hv⟩ hN
      have g1 : tab1[i]? = some (tab1[i]'(by omega)) := List.getElem?_eq_getElem (by omega)
      have g2 : tab2[i]? = some (tab2[i]'(by omega)) := List.getElem?_eq_getElem (by omega)
      have w1 := sq1 _ (List.mem_of_getElem? g1)
      have w2 := sq2 _ (List.mem_of_getElem? g2)
      obtain ⟨r1, e1, h1, _⟩ := T1.get g1
      obtain ⟨r2, e2, h2, _⟩ := T2.get g2
      generalize tab1[i]'(by omega) = row1 at *
      generalize tab2[i]'(by omega) = row2 at *
      replace hu : (rs1.map V.ref)[i]? = some u := hu
      replace hv : (rs2.map V.ref)[i]? = some v := hv
      rw [List.getElem?_map, e1] at hu
      rw [List.getElem?_map, e2] at hv
      cases hu
      cases hv
      have h1' := hp_new (o := .tup [.ref r1, .ref r2]) hT (s _ _ h1)
      have h2' := hp_new (o := .tup [.ref r1, .ref r2]) hT (s _ _ h2)
      walk_at "rd"
      refine rd_lc ?_
      walk_at "rd"
      refine ⟨r1, r2, _, _, rfl, .inl ⟨SqL.of h1', SqL.of h2', ?_⟩⟩
      refine lc_pureF (walk_zip (K := K) (a := r1) (b := r2) (xs := row1.map V.int) (ys := row2.map V.int) (n := n) (by rw [List.length_map, List.length_map]; omega)) (fun _ => true) (fun b => .int (gT tab1 i b + gT tab2 i b)) (by omega) (fun H' s => ⟨SqL.of (s _ _ h1'), SqL.of (s _ _ h2')⟩) same_pair ?_ ?_
      · rintro b x H3 H4 Nx' E' hb s3 s4 ⟨T4, u, v, rfl, hT4, rfl, hu, hv⟩ hN' _
        replace hu : (row1.map V.int)[b]? = some u := hu
        replace hv : (row2.map V.int)[b]? = some v := hv
        rw [List.getElem?_map, List.getElem?_eq_getElem (by omega)] at hu hv
        cases hu
        cases hv
        rw [gT_row g1, gT_row g2, getD_of (List.getElem?_eq_getElem (by omega)), getD_of (List.getElem?_eq_getElem (by omega))] at hN'
        walk_at "rd"
        exact hN' rfl _ fun _ _ e => e
      · intro D2 H3 hD2 s3 e3
        refine hN D2 H3 s3 hD2 ?_
        rw [e3, ftrue, List.map_map]; rfl
    · intro D rs H2 hD s e pr nd fr
      walk_at "rd"
      exact q H2 D rs s hD ⟨e, pairs_mkT pr⟩ nd fr
def spOf (C : Addr) : Sp := fun vs H Q _ => ∃ (v : V) (n : Nat) (tab : List (List Int)), vs = [v] ∧ RowsLike H v tab ∧ tab.length = n ∧ (∀ row ∈ tab, row.length = n) ∧ n ≤ 1000 ∧
  ∀ H' p t rs, Same H H' → CostsAt C H' p n t rs (zeroD tab n) → H p = none → H t = none → (∀ r ∈ rs, H r = none) → Q (.ref p) H'
theorem ok_Costs_of (T : Txt K mg) : FnOk P w K mg base CX0 3 T.f_Costs_of T.fd_Costs_of ["rows"] (spOf T.C_Costs) := by
  refine T.F_Costs_of.ok sc_Costs_of (fun vs H Q E h => ?_) (fun cdv A outer s H vs Q E hr h => ?_)
  · obtain ⟨v, n, tab, rfl, _⟩ := h
    rfl
  · obtain ⟨v, n, tab, rfl, RL, ht, hsq, hn, q⟩ := h
    refine ⟨_, (pss_cons (ps_set (i := 1) sc_Costs_of.nd rfl (by first | exact Or.inl rfl | exact Or.inr rfl) (pe_make T.mk_Costs (ok_Costs___init__ T) (hr.mono (by omega)) (by rfl) T.mg_Costs T.b_Costs___init__ .nil pass0 (pa_cons (pe_callB (dLen K) (by rfl) T.n_len (by decide +kernel) (pa_cons (pv 0) pa_nil)) pa_nil)))
   (pss_cons (ps_fld (pv 1) (pe_call (ok_copied T) (hr.mono (by omega)) (by rfl) T.g_copied T.F_copied.kp T.b_copied .nil pass0 (pa_cons (pv 0) pa_nil)) rfl)
   (pss_one (ps_ret (pv 1))))), ?_⟩
    have go : ∀ (x dx : Addr), H x = none → H dx = none → dx ≠ x → ∀ (R : Addr → List Addr → Hp → Prop), True := fun _ _ _ _ _ _ => trivial
    obtain ⟨a, xs, rfl, ea, px⟩ := id RL
    have lx : xs.length = n := by rw [Paired.len px, ht]
    rcases ea with ea | ea
    all_goals
      walk_at "rd"
      intro x dx hx hdx ndx
      rw [lx]
      have sx : Same H (upd (upd H dx (.own x)) x (.ins T.C_Costs dx [])) := fun b o e => by
        rw [upd_ne (ne_of_none e hx), upd_ne (ne_of_none e hdx)]
        exact e
      refine ⟨x, dx, n, rfl, hn, upd_same, fun H1 t rs kp CA ht0 hr0 => ⟨rfl, ?_⟩⟩
      have s1 : Same H H1 := fun b o e => kp b o (sx b o e) (ne_of_none e hx)
      walk_at "rd"
      refine ⟨.ref a, n, tab, rfl, RL.same s1, ht, hsq, hn, fun H2 D rs2 s2 hD TA nd fr => ?_⟩
      obtain ⟨dx2, ob⟩ := CA.ob
      walk_at "rd"
      refine rv_sfld (s2 _ _ ob) T.cl_Costs T.na_Costs__table (cF_len _ _) ?_
      rw [cF_put]
      walk_at "rd"
      refine q _ x D rs2 (fun b o e => hp_set (ne_of_none e hx) (s2 _ _ (s1 _ _ e))) ⟨⟨_, upd_same⟩, ?_, mkT_len .., mkT_sq _ _, nd, fun h => (fr D h).2 rfl⟩ hx (s1.free hD) (fun r hr => s1.free (fr r hr).1)
      refine TA.offs (S := [x]) ((OffS.refl _ _).set (by simp)) ?_ ?_
      · simp only [List.mem_singleton]
        exact (ne_of_none ob hD).symm
      · intro r hr
        simp only [List.mem_singleton]
        exact (ne_of_none ob (fr r hr).1).symm
theorem addT_len (n : Nat) (s t : List (List Int)) : (addT n s t).length = n := mkT_len ..
def spAdd (C : Addr) : Sp := fun vs H Q _ => ∃ (n : Nat) (p1 p2 t1 t2 : Addr) (rs1 rs2 : List Addr) (tab1 tab2 : List (List Int)), vs = [.ref p1, .ref p2] ∧ CostsAt C H p1 n t1 rs1 tab1 ∧ CostsAt C H p2 n t2 rs2 tab2 ∧ n ≤ 1000 ∧
  ∀ H' p t rs, Same H H' → CostsAt C H' p n t rs (zeroD (addT n tab1 tab2) n) → H p = none → H t = none → (∀ r ∈ rs, H r = none) → Q (.ref p) H'
theorem ok_Costs___add__ (T : Txt K mg) : FnOk P w K mg base CX0 4 T.f_Costs___add__ T.fd_Costs___add__ ["self", "other"] (spAdd T.C_Costs) := by
  refine T.F_Costs___add__.ok sc_Costs___add__ (fun vs H Q E h => ?_) (fun cdv A outer s H vs Q E hr h => ?_)
  · obtain ⟨n, p1, p2, t1, t2, rs1, rs2, tab1, tab2, rfl, _⟩ := h
    rfl
  · obtain ⟨n, p1, p2, t1, t2, rs1, rs2, tab1, tab2, rfl, C1, C2, hn, q⟩ := h
    obtain ⟨dx1, ob1⟩ := C1.ob
    obtain ⟨dx2, ob2⟩ := C2.ob
    refine ⟨_, (pss_cons (ps_expr (pe_call (ok_check_sizes T) (hr.mono (by omega)) (by rfl) T.g_check_sizes T.F_check_sizes.kp T.b_check_sizes .nil pass0 (pa_cons (pe_fld (pv 0) rfl) (pa_cons (pe_fld (pv 1) rfl) pa_nil))))
   (pss_one (ps_ret (pe_stat (pe_glob (v := .ref T.C_Costs) (by rfl) T.mg_Costs rfl) T.st_Costs_of (ok_Costs_of T) (hr.mono (by omega)) T.b_Costs_of pass0 (pa_cons (pe_call (ok_added T) (hr.mono (by omega)) (by rfl) T.g_added T.F_added.kp T.b_added .nil pass0 (pa_cons (pe_fld (pv 0) rfl) (pa_cons (pe_fld (pv 1) rfl) pa_nil))) pa_nil))))), ?_⟩
    walk_at "rd"
    refine rv_fld ob1 T.cl_Costs T.na_Costs_size (cF_size _ _) ?_
    walk_at "rd"
    refine rv_fld ob2 T.cl_Costs T.na_Costs_size (cF_size _ _) ?_
    walk_at "rd"
    refine ⟨n, rfl, ?_⟩
    walk_at "rd"
    refine rv_fld ob1 T.cl_Costs T.na_Costs__table (cF_table _ _) ?_
    walk_at "rd"
    refine rv_fld ob2 T.cl_Costs T.na_Costs__table (cF_table _ _) ?_
    walk_at "rd"
    refine ⟨n, t1, t2, rs1, rs2, tab1, tab2, rfl, C1.tb, C2.tb, C1.sz, C2.sz, C1.sq, C2.sq, hn, fun H1 D rs s1 hD TA nd fr => ?_⟩
    walk_at "rd"
    refine ⟨_, n, _, rfl, RowsLike.of_tab TA, addT_len .., mkT_sq _ _, hn, fun H2 p t rs2 s2 CA hp ht hr2 => ?_⟩
    exact q H2 p t rs2 (s1.trans s2) CA (s1.free hp) (s1.free ht) fun r hr => s1.free (hr2 r hr)
def spIadd (C : Addr) : Sp := fun vs H Q _ => ∃ (n : Nat) (p1 p2 t1 t2 : Addr) (rs1 rs2 : List Addr) (tab1 tab2 : List (List Int)), vs = [.ref p1, .ref p2] ∧ CostsAt C H p1 n t1 rs1 tab1 ∧ CostsAt C H p2 n t2 rs2 tab2 ∧ n ≤ 1000 ∧
  ∀ H' t rs, OffS [p1] H H' → CostsAt C H' p1 n t rs (addT n tab1 tab2) → H t = none → (∀ r ∈ rs, H r = none) → Q (.ref p1) H'
theorem ok_Costs___iadd__ (T : Txt K mg) : FnOk P w K mg base CX0 2 T.f_Costs___iadd__ T.fd_Costs___iadd__ ["self", "other"] (spIadd T.C_Costs) := by
  refine T.F_Costs___iadd__.ok sc_Costs___iadd__ (fun vs H Q E h => ?_) (fun cdv A outer s H vs Q E hr h => ?_)
  · obtain ⟨n, p1, p2, t1, t2, rs1, rs2, tab1, tab2, rfl, _⟩ := h
    rfl
  · obtain ⟨n, p1, p2, t1, t2, rs1, rs2, tab1, tab2, rfl, C1, C2, hn, q⟩ := h
    obtain ⟨dx1, ob1⟩ := C1.ob
    obtain ⟨dx2, ob2⟩ := C2.ob
    refine ⟨_, (pss_cons (ps_expr (pe_call (ok_check_sizes T) (hr.mono (by omega)) (by rfl) T.g_check_sizes T.F_check_sizes.kp T.b_check_sizes .nil pass0 (pa_cons (pe_fld (pv 0) rfl) (pa_cons (pe_fld (pv 1) rfl) pa_nil))))
   (pss_cons (ps_fld (pv 0) (pe_call (ok_added T) (hr.mono (by omega)) (by rfl) T.g_added T.F_added.kp T.b_added .nil pass0 (pa_cons (pe_fld (pv 0) rfl) (pa_cons (pe_fld (pv 1) rfl) pa_nil))) rfl)
   (pss_one (ps_ret (pv 0))))), ?_⟩
    walk_at "rd"
    refine rv_fld ob1 T.cl_Costs T.na_Costs_size (cF_size _ _) ?_
    walk_at "rd"
    refine rv_fld ob2 T.cl_Costs T.na_Costs_size (cF_size _ _) ?_
    walk_at "rd"
    refine ⟨n, rfl, ?_⟩
    walk_at "rd"
    refine rv_fld ob1 T.cl_Costs T.na_Costs__table (cF_table _ _) ?_
    walk_at "rd"
    refine rv_fld ob2 T.cl_Costs T.na_Costs__table (cF_table _ _) ?_
    walk_at "rd"
    refine ⟨n, t1, t2, rs1, rs2, tab1, tab2, rfl, C1.tb, C2.tb, C1.sz, C2.sz, C1.sq, C2.sq, hn, fun H1 D rs s1 hD TA nd fr => ?_⟩
    walk_at "rd"
    refine rv_sfld (s1 _ _ ob1) T.cl_Costs T.na_Costs__table (cF_len _ _) ?_
    rw [cF_put]
    walk_at "rd"
    refine q _ D rs (((OffS.refl _ _).same s1).set (by simp)) ⟨⟨_, upd_same⟩, ?_, addT_len .., mkT_sq _ _, nd, fun h => (fr D h).2 rfl⟩ hD (fun r hr => (fr r hr).1)
    refine TA.offs (S := [p1]) ((OffS.refl _ _).set (by simp)) ?_ ?_
    · simp only [List.mem_singleton]
      exact (ne_of_none ob1 hD).symm
    · intro r hr
      simp only [List.mem_singleton]
      exact (ne_of_none ob1 (fr r hr).1).symm
end
end K29
namespace K29
open PySem PySem.Spec PyProof.Rows L2 D0
local macro_rules | `(tactic| walk_at "neB") => `(tactic| with_reducible first | assumption | (apply Ne.symm; assumption) | (refine' BagAt.ne ?x ?h; (case h => assumption); (case x => assumption)))
local macro_rules | `(tactic| walk_at "hq") => `(tactic| with_reducible first | assumption | exact upd_same | ((first | (refine' hp_new ?nn ?hq; (case nn => assumption)) | (refine' Off.get ?f ?ne ?hq; (case f => assumption); (case ne => walk_at "neB"))); (case hq => walk_at "hq")))
local macro_rules | `(tactic| walk_at "neA") => `(tactic| with_reducible first | (refine' BagAt.ne ?x ?h; (case h => assumption); (case x => assumption)) | (refine' ne_of_none ?x ?h; (case h => assumption); (case x => walk_at "hq")))
local macro_rules | `(tactic| walk_at "ne") => `(tactic| with_reducible first | assumption | (apply Ne.symm; assumption) | walk_at "neA" | (apply Ne.symm; walk_at "neA"))
local macro_rules | `(tactic| walk_at "off") => `(tactic| with_reducible repeat' (first | assumption | exact Off.refl _ _ | apply Off.set | (refine' Off.new ?_ ?h; (case h => assumption)) | (refine' Off.trans ?_ ?f; (case f => assumption))))
local macro_rules | `(tactic| walk_at "hp") => `(tactic| with_reducible first | assumption | exact upd_same | ((first | (refine' hp_new ?nn ?hp; (case nn => assumption)) | (refine' hp_set ?ne ?hp; (case ne => walk_at "ne")) | (refine' Off.get ?f ?ne ?hp; (case f => assumption); (case ne => walk_at "ne"))); (case hp => walk_at "hp")))
local macro_rules | `(tactic| walk_at "sq") => `(tactic| with_reducible first | assumption | (refine' SqL.of ?hh; (case hh => walk_at "hp")) | ((first | (refine' sq_new ?nn ?sq; (case nn => assumption)) | (refine' sq_set ?ne ?sq; (case ne => walk_at "ne")) | (refine' Off.seq ?f ?ne ?sq; (case f => assumption); (case ne => walk_at "ne"))); (case sq => walk_at "sq")))
local macro_rules | `(tactic| walk_at "sqt") => `(tactic| with_reducible first | assumption | (refine' SqT.of ?hh; (case hh => walk_at "hp")) | ((first | (refine' sqt_new ?nn ?sq; (case nn => assumption)) | (refine' sqt_set ?ne ?sq; (case ne => walk_at "ne")) | (refine' Off.seqT ?f ?ne ?sq; (case f => assumption); (case ne => walk_at "ne"))); (case sq => walk_at "sqt")))
/- straight-line steps of a reading -/
local macro_rules | `(tactic| walk_at "at") => `(tactic| first | assumption | rfl | exact atI_nat (j := 0) rfl | exact atI_nat (j := 1) rfl | exact atI_nat (j := 2) rfl | exact at_ints (by omega) (by omega))
local macro_rules | `(tactic| walk_at "sz") => `(tactic| first | assumption | decide | exact sz4 (by omega) | exact sz4' (by omega) | (simp only [List.length_map, List.length_append, List.length_cons, List.length_nil, List.length_range, List.length_replicate]; first | exact sz4 (by omega) | exact sz4' (by omega) | omega))
local macro_rules | `(tactic| walk_at "mul") => `(tactic| first | exact .inr ⟨by decide, by decide⟩ | exact mul_fm (by decide) (by decide) | exact .inl ⟨by omega, by omega⟩ | exact .inr ⟨by omega, by omega⟩)
local macro_rules | `(tactic| walk_at "div") => `(tactic| with_reducible first | exact div97 | exact div3 | exact div2 | exact div_m (by assumption) (by assumption))
local macro_rules | `(tactic| walk_at "nz") => `(tactic| first | decide | omega)
local macro_rules | `(tactic| walk_at "rd") => `(tactic| repeat' walk_at "rd1")
local macro_rules | `(tactic| walk_at "rdA") => `(tactic| with_reducible first
  | refine rd_op ?_
  | refine rd_c ?_
  | refine rd_cb ?_
  | refine rd_cons ?_
  | refine rd_nil ?_
  | refine rd_bl ?_
  | refine rd_ii ?_
  | refine rd_M1 ?_
  | refine rd_M0 ?_
  | refine rd_isS ?_
  | refine rd_test ?_
  | refine rd_B ?_
  | refine rd_and ?_
  | refine rd_or ?_
  | refine rd_not ?_
  | refine rd_andV ?_
  | refine rd_orV ?_
  | refine rd_notV ?_
  | refine rd_ifE ?_
  | refine rd_chain ?_
  | refine rd_seq ?_
  | refine rd_if ?_
  | refine rd_asg ?_
  | refine rd_gname ?_
  | refine rd_gsub ?_
  | refine rd_drop ?_
  | refine rd_ret ?_
  | refine rd_retN ?_
  | refine rd_brk ?_
  | refine rd_cnt ?_
  | refine rd_next ?_
  | refine rd_tup ?_
  | refine rd_lst ?_
  | refine rd_BM ?_
  | refine rd_gcons ?_
  | refine rd_gnil ?_
  | refine rd_sl ?_
  | refine rd_nopart ?_
  | refine rd_part ?_
  | refine rd_un ?_
  | refine rd_call ?_
  | refine rd_callN ?_
  | refine rd_fld ?_
  | refine rd_sfld ?_
  | refine rd_meth ?_
  | refine rd_make ?_
  | refine rd_stat ?_
  | refine rv_stat ?_
  | refine rd_lenSet ?_
  | refine rd_dget ?_
  | refine rd_din ?_
  | refine rd_dnin ?_
  | refine rd_dput ?_
  | refine rd_dnewK ?_
  | refine rd_dnewT ?_
  | refine rd_listRg ?_
  | refine rd_rg1 ?_
  | refine rd_rg2 ?_
  | refine rv_i2 ?_
  | refine rd_yes ?_
  | refine rd_iList ?_
  | refine rd_iTup ?_
  | refine rd_augS ?_
  | refine rv_ipI ?_
  | refine rd_zipA ?_
  | refine rd_enumT ?_
  | refine rd_for ?_
  | refine rd_rng1 ?_
  | refine rd_revL ?_
  | refine rv_addI ?_
  | refine rv_sub ?_
  | refine rv_lt ?_
  | refine rv_le ?_
  | refine rv_gt ?_
  | refine rv_ge ?_
  | refine rv_eqI ?_
  | refine rv_neI ?_
  | refine rv_eqS ?_
  | refine rv_eqB ?_
  | refine rv_neS ?_
  | refine rv_neB ?_
  | refine rv_int ?_
  | refine rv_inS ?_
  | refine rv_isNn ?_
  | refine rv_isNr ?_
  | refine rv_isNi ?_
  | refine rv_isNb ?_
  | refine rv_isNs ?_
  | refine rv_notNn ?_
  | refine rv_notNr ?_
  | refine rv_notNi ?_
  | refine rv_ninS ?_
  | refine rv_abs ?_
  | refine rv_max2 ?_
  | refine rv_min2 ?_
  | refine rv_ord ?_
  | refine rv_neg ?_
  | refine iteT ?_
  | refine iteF ?_
  | refine iteD (fun h => ?_) (fun h => ?_)
  | refine iteND (fun h => ?_) (fun h => ?_))
local macro_rules | `(tactic| walk_at "rd1") => `(tactic| first
  | ((with_reducible refine' rd_andB ?h ?_); (case h => (intro Qe hq; walk_at "rd"; exact hq)))
  | ((with_reducible refine' rd_orB ?h ?_); (case h => (intro Qe hq; walk_at "rd"; exact hq)))
  | walk_at "rdA"
  | ((with_reducible refine' rd_var ?h ?_); (case h => rfl))
  | ((with_reducible refine' rd_wipe ?h ?_); (case h => rfl))
  | ((with_reducible refine' rd_aug ?h ?_); (case h => rfl))
  | ((with_reducible refine' rv_ixL ?h ?c ?_); (case h => walk_at "sq"); (case c => walk_at "at"))
  | ((with_reducible refine' rv_ixS ?h ?c ?_); (case h => walk_at "sz"); (case c => walk_at "at"))
  | ((with_reducible refine' rv_setL ?h ?c ?_); (case h => walk_at "hp"); (case c => rfl))
  | ((with_reducible refine' rv_mulI ?h ?_); (case h => walk_at "mul"))
  | ((with_reducible refine' rv_mod ?h ?_); (case h => walk_at "nz"))
  | ((with_reducible refine' rv_div ?h ?_); (case h => walk_at "div"))
  | ((with_reducible refine' rv_pow ?h ?_); (case h => exact ⟨by decide, by decide, by decide⟩))
  | ((with_reducible refine' rv_get ?h ?h0 ?c ?_); (case h => walk_at "sq"); (case h0 => omega); (case c => walk_at "at"))
  | ((with_reducible refine' rv_lenL ?h ?_); (case h => walk_at "sq"))
  | ((with_reducible refine' rv_lenS ?h ?_); (case h => walk_at "sz"))
  | ((with_reducible refine' rv_addS ?h ?_); (case h => walk_at "sz"))
  | ((with_reducible refine' rd_tyL ?h ?_); (case h => walk_at "sq"))
  | (with_reducible refine rd_tyS ?_)
  | ((with_reducible refine' rv_inL ?h ?hx ?hf ?_); (case h => walk_at "sq"); (case hx => rfl); (case hf => rfl))
  | ((with_reducible refine' rv_ninL ?h ?hx ?hf ?_); (case h => walk_at "sq"); (case hx => rfl); (case hf => rfl))
  | ((with_reducible refine' rv_all ?h ?_); (case h => walk_at "sq"))
  | ((with_reducible refine' rv_addL ?h1 ?h2 ?h3 (fun p hp => ?_)); (case h1 => walk_at "hp"); (case h2 => walk_at "hp"); (case h3 => walk_at "sz"))
  | (with_reducible refine iteB (fun h => ?_) (fun h => ?_))
  | (refine ⟨rfl, rfl, ?_⟩)
  | ((with_reducible refine' rv_up ?h ?_); (case h => omega))
  | ((with_reducible refine' rv_iL ?h ?_); (case h => walk_at "sq"))
  | ((with_reducible refine' rv_iT ?h ?_); (case h => walk_at "sqt"))
  | ((with_reducible refine' rv_listL ?h (fun p hp => ?_)); (case h => walk_at "sq"))
  | ((with_reducible refine' rv_listT ?h (fun p hp => ?_)); (case h => walk_at "sqt"))
  | ((with_reducible refine' rv_tupL ?h (fun p hp => ?_)); (case h => walk_at "sq"))
  | ((with_reducible refine' rv_tupT ?h ?_); (case h => walk_at "sqt"))
  | ((with_reducible refine' rv_ixT ?h ?c ?_); (case h => walk_at "sqt"); (case c => walk_at "at"))
  | ((with_reducible refine' rd_gtup ?h ?c ?_); (case h => walk_at "sqt"); (case c => rfl))
  | ((with_reducible refine' rv_lenT ?h ?_); (case h => walk_at "sqt"))
  | ((with_reducible refine' rv_isiB ?h ?_); (case h => with_reducible first | exact isi_bool_bool | exact isi_bool_int | exact isi_bool_str | exact isi_bool_list | exact isi_bool_tuple | exact isi_bool_dict))
  | ((with_reducible refine' rv_isiI ?h ?_); (case h => with_reducible first | exact isi_int_bool | exact isi_int_int | exact isi_int_str | exact isi_int_list | exact isi_int_tuple | exact isi_int_dict))
  | ((with_reducible refine' rv_isiS ?h ?_); (case h => with_reducible first | exact isi_str_bool | exact isi_str_int | exact isi_str_str | exact isi_str_list | exact isi_str_tuple | exact isi_str_dict))
  | ((with_reducible refine' rv_isiN ?h ?_); (case h => with_reducible first | exact isi_NoneType_bool | exact isi_NoneType_int | exact isi_NoneType_str | exact isi_NoneType_list | exact isi_NoneType_tuple | exact isi_NoneType_dict))
  | ((with_reducible refine' rv_isiL ?e ?h ?_); (case e => walk_at "hp"); (case h => with_reducible first | exact isi_list_bool | exact isi_list_int | exact isi_list_str | exact isi_list_list | exact isi_list_tuple | exact isi_list_dict))
  | ((with_reducible refine' rv_isiT ?e ?h ?_); (case e => walk_at "hp"); (case h => with_reducible first | exact isi_tuple_bool | exact isi_tuple_int | exact isi_tuple_str | exact isi_tuple_list | exact isi_tuple_tuple | exact isi_tuple_dict))
  | ((with_reducible refine' rv_revL ?h ?_); (case h => walk_at "sq"))
  | (with_reducible refine fun (p : Addr) (hp : _ = none) => ?_)
  | ((with_reducible refine' rv_slL ?h (fun p hp => ?_)); (case h => walk_at "sq"))
  | ((with_reducible refine' rv_slS ?h ?_); (case h => walk_at "sz"))
  | ((with_reducible refine' rv_ext ?h ?h2 ?c ?_); (case h => walk_at "hp"); (case h2 => walk_at "hp"); (case c => walk_at "sz"))
  | (refine ⟨(by simp only [List.length_cons, List.length_nil]; decide), fun p hp => ?_⟩)
  | ((with_reducible refine' rv_app ?h ?c ?_); (case h => walk_at "hp"); (case c => walk_at "sz"))
  )
local macro_rules | `(tactic| walk_at "bag") => `(tactic| first | assumption | (refine ⟨_, _, _, _, _, upd_same, (by assumption), ?hp, (by omega), (by omega)⟩; (case hp => walk_at "hp")) | exact ⟨_, _, _, _, _, (by assumption), (by assumption), (by assumption), (by assumption), (by assumption)⟩ | (refine BagAt.new ?_ (by assumption); walk_at "bag") | (refine BagAt.put ?_ (by assumption) (by assumption); walk_at "bag"))

section
variable {P : Program} {w : World} {K : PySem.W.Frag} {mg : Str → Option Value} {base : Heap}
theorem ok_law_draw (T : Txt K mg) : FnOk P w K mg base CX0 1 T.f_law_draw T.fd_law_draw ["bag", "many"] spDraw := by
  refine T.F_law_draw.ok sc_law_draw (fun vs H Q E h => ?_) (fun cdv A outer s H vs Q E hr h => ?_)
  · obtain ⟨b, c, cs, m, rfl, _⟩ := h
    rfl
  · obtain ⟨b, c, cs, m, rfl, hm, hm9, B, q⟩ := h
    have p18 : (0 : Int) ≤ 10 ^ Int.toNat 18 := by decide
    refine ⟨_, (C8.pss_cut (ps_if (PW.pt (pw_and (pt_cmpR dEq (pe_ix (dIx K) (pv 0) pe_int (fun _ _ => rfl)) pe_int (nomark _)) (pw_and (pt_cmpR dEq (pe_ix (dIx K) (pv 0) pe_int (fun _ _ => rfl)) pe_int (nomark _)) (pw_and1 (pt_cmpR dLt (pe_ix (dIx K) (pv 0) pe_int (fun _ _ => rfl)) (pe_callB (dLen K) (by rfl) T.n_len (by decide +kernel) (pa_cons (pe_ix (dIx K) (pv 0) pe_int (fun _ _ => rfl)) pa_nil)) (nomark _))))))
    (pss_cons (ps_set (i := 2) sc_law_draw.nd rfl (by first | exact Or.inl rfl | exact Or.inr rfl) (pe_ix (dIx K) (pe_ix (dIx K) (pv 0) pe_int (fun _ _ => rfl)) (pe_ix (dIx K) (pv 0) pe_int (fun _ _ => rfl)) (fun _ _ => rfl)))
    (pss_cons (ps_asg (pe_op (dAdd K) (pe_ix (dIx K) (pv 0) pe_int (fun _ _ => rfl)) pe_int) (pg_sub (pv 0) pe_int set_list))
    (pss_one (ps_if (pt_cmpR dGe (pv 2) (pe_op dPow pe_int pe_int) (nomark _))
     (pss_one (ps_asg (pv 2) (pg_sub (pv 0) pe_int set_list)))
     (pss_cons (ps_asg (pe_op dMod (pe_callTy dInt (by rfl) T.n_int (by decide +kernel) (pa_cons (pe_op (dAdd K) (pe_op dMul (pe_ix (dIx K) (pv 0) pe_int (fun _ _ => rfl)) pe_int) (pv 2)) pa_nil)) pe_int) (pg_sub (pv 0) pe_int set_list))
     (pss_one (ps_asg pe_int (pg_sub (pv 0) pe_int set_list))))))))
    pss_nil)
   (pss_cons (ps_if (pt_cmpR dGt (pe_ix (dIx K) (pv 0) pe_int (fun _ _ => rfl)) pe_int (nomark _))
    (pss_cons (ps_set (i := 3) sc_law_draw.nd rfl (by first | exact Or.inl rfl | exact Or.inr rfl) (pe_op dMod (pe_callTy dInt (by rfl) T.n_int (by decide +kernel) (pa_cons (pe_ix (dIx K) (pv 0) pe_int (fun _ _ => rfl)) pa_nil)) (pv 1)))
    (pss_cons (ps_asg (pe_op dDiv (pe_ix (dIx K) (pv 0) pe_int (fun _ _ => rfl)) (pv 1)) (pg_sub (pv 0) pe_int set_list))
    (pss_one (ps_ret (pv 3)))))
    pss_nil)
   (pss_cons (ps_asg (pe_op (dAdd K) (pe_ix (dIx K) (pv 0) pe_int (fun _ _ => rfl)) pe_int) (pg_sub (pv 0) pe_int set_list))
   (pss_cons (ps_if (pt_cmpR dGt (pe_ix (dIx K) (pv 0) pe_int (fun _ _ => rfl)) pe_int (nomark _))
    (pss_one (ps_asg (pe_op dSub (pe_ix (dIx K) (pv 0) pe_int (fun _ _ => rfl)) pe_int) (pg_sub (pv 0) pe_int set_list)))
    pss_nil)
   (pss_cons (ps_set (i := 4) sc_law_draw.nd rfl (by first | exact Or.inl rfl | exact Or.inr rfl) (pe_op dMod (pe_callTy dInt (by rfl) T.n_int (by decide +kernel) (pa_cons (pe_op (dAdd K) (pe_op (dAdd K) (pe_op dMul (pe_ix (dIx K) (pv 0) pe_int (fun _ _ => rfl)) pe_int) (pe_op dMul (pe_ix (dIx K) (pv 0) pe_int (fun _ _ => rfl)) pe_int)) pe_int) pa_nil)) pe_int))
   (pss_cons (ps_set (i := 5) sc_law_draw.nd rfl (by first | exact Or.inl rfl | exact Or.inr rfl) (pe_op dMod (pe_callTy dInt (by rfl) T.n_int (by decide +kernel) (pa_cons (pe_op (dAdd K) (pe_op (dAdd K) (pe_op dMul (pv 4) (pv 4)) (pe_op dMul (pe_ix (dIx K) (pv 0) pe_int (fun _ _ => rfl)) pe_int)) pe_int) pa_nil)) pe_int))
   (pss_cons (ps_set (i := 6) sc_law_draw.nd rfl (by first | exact Or.inl rfl | exact Or.inr rfl) (pe_op dMod (pe_callTy dInt (by rfl) T.n_int (by decide +kernel) (pa_cons (pe_op (dAdd K) (pe_op dMul (pv 5) (pv 5)) (pe_op dDiv (pv 5) pe_int)) pa_nil)) pe_int))
   (pss_one (ps_ret (pe_op dMod (pe_callTy dInt (by rfl) T.n_int (by decide +kernel) (pa_cons (pe_op dDiv (pv 6) pe_int) pa_nil)) (pv 1))))))))))), ?_⟩
    refine ⟨fun σ H' => ∃ x, σ = [some (.ref b), some (.int m), x, none, none, none, none] ∧ Off b H H' ∧ BagAt b c cs H', ?_, ?_⟩
    · obtain ⟨i, z, s, n, k, hb, ncb, hc, hi, hz⟩ := id B
      walk_at "rd"
      all_goals exact ⟨_, rfl, by walk_at "off", by walk_at "bag"⟩
    · rintro σ H1 ⟨x, rfl, f1, i, z, s, n, k, hb, ncb, hc, hi, hz⟩
      have zdiv : 0 ≤ z / m := Int.ediv_nonneg hz (by omega)
      walk_at "rd"
      all_goals exact q _ _ (by walk_at "off") (by walk_at "bag") (fm0 hm) (fm1 hm)
theorem ok_law_bag (T : Txt K mg) : FnOk P w K mg base CX0 1 T.f_law_bag T.fd_law_bag ["script"] (spBag K) := by
  refine T.F_law_bag.ok sc_law_bag (fun vs H Q E h => ?_) (fun cdv A outer s H vs Q E hr h => ?_)
  · obtain ⟨a, ns, rfl, _⟩ := h
    rfl
  · obtain ⟨a, ns, rfl, hS, hl, q⟩ := h
    refine ⟨_, (pss_one (ps_ret (pe_lst (pa_cons (pe_lc (own := [("cell", 1)]) (g := gName 1) (tt := tYes) rfl sc_law_bag.nd  (dpi_list K (pv 0)) (blkOk_by (own := [("cell", 1)]) (N := ["script", "cell"]) (sc := defScope s_law_bag) (by decide +kernel)) (fun _ _ _ _ _ => (pg_name (i := 1) sc_law_bag.nd rfl (by first | exact Or.inl rfl | exact Or.inr rfl))) (fun _ _ _ _ _ => pts_nil) (fun _ _ _ _ _ => (pe_callB dAbs (by rfl) T.n_abs (by decide +kernel) (pa_cons (pe_callTy dInt (by rfl) T.n_int (by decide +kernel) (pa_cons (pv 1) pa_nil)) pa_nil)))) (pa_cons pe_int (pa_cons pe_int (pa_cons pe_int (pa_cons pe_int (pa_cons pe_int pa_nil))))))))), ?_⟩
    walk_at "rd"
    refine lc_map (a := a) (xs := ns.map V.int) (fun x => match x with | .int i => .int (if i < 0 then -i else i) | _ => x) (fun Qe h => ?_) hS (by rw [List.length_map]; exact Nat.lt_of_le_of_lt hl (by decide)) (fun _ => rfl) ?_ ?_
    · walk_at "rd"; exact h
    · intro i x H' hx s1 Qe hq
      obtain ⟨n, rfl⟩ : ∃ n, x = V.int n := by
        obtain ⟨n, _, e⟩ := List.mem_map.mp (List.mem_of_getElem? hx)
        exact ⟨n, e.symm⟩
      walk_at "rd"
      exact hq _ fun _ _ e => e
    · intro D H1 hD s1 e1
      have e2 : List.map (fun x => match x with | .int i => .int (if i < 0 then -i else i) | _ => x) (ns.map V.int) = (ns.map fun i => if i < 0 then -i else i).map V.int := by
        rw [List.map_map, List.map_map]; rfl
      rw [e2] at e1
      walk_at "rd"
      rename_i p hp
      refine q _ _ D _ (s1.trans (same_upd hp)) (s1.free hp) ⟨_, _, _, _, _, upd_same, ne_of_none e1 hp, hp_new hp e1, by omega, by omega⟩
theorem ok_law_whole (T : Txt K mg) : FnOk P w K mg base CX0 1 T.f_law_whole T.fd_law_whole ["got"] spWhole := by
  refine T.F_law_whole.ok sc_law_whole (fun vs H Q E h => ?_) (fun cdv A outer s H vs Q E hr h => ?_)
  · obtain ⟨i, rfl, _⟩ := h
    rfl
  · obtain ⟨i, rfl, q⟩ := h
    refine ⟨_, (pss_one (ps_ret (pe_and (pe_callB (dIsi K) (by rfl) T.n_isinstance (by decide +kernel) (pa_cons (pv 0) (pa_cons (pe_bltn (v := .ty "int") (u := .type "int") (by rfl) T.n_int (by decide +kernel) rfl) pa_nil))) (pe_one (pe_not (pe_callB (dIsi K) (by rfl) T.n_isinstance (by decide +kernel) (pa_cons (pv 0) (pa_cons (pe_bltn (v := .ty "bool") (u := .type "bool") (by rfl) T.n_bool (by decide +kernel) rfl) pa_nil)))))))), ?_⟩
    walk_at "rd"
    exact q
end
end K29
namespace K29
open PySem PySem.Spec PyProof.Rows L2 D0
local macro_rules | `(tactic| walk_at "neB") => `(tactic| with_reducible first | assumption | (apply Ne.symm; assumption) | (refine' BagAt.ne ?x ?h; (case h => assumption); (case x => assumption)))
local macro_rules | `(tactic| walk_at "hq") => `(tactic| with_reducible first | assumption | exact upd_same | ((first | (refine' hp_new ?nn ?hq; (case nn => assumption)) | (refine' Off.get ?f ?ne ?hq; (case f => assumption); (case ne => walk_at "neB"))); (case hq => walk_at "hq")))
local macro_rules | `(tactic| walk_at "neA") => `(tactic| with_reducible first | (refine' BagAt.ne ?x ?h; (case h => assumption); (case x => assumption)) | (refine' ne_of_none ?x ?h; (case h => assumption); (case x => walk_at "hq")))
local macro_rules | `(tactic| walk_at "ne") => `(tactic| with_reducible first | assumption | (apply Ne.symm; assumption) | walk_at "neA" | (apply Ne.symm; walk_at "neA"))
local macro_rules | `(tactic| walk_at "off") => `(tactic| with_reducible repeat' (first | assumption | exact Off.refl _ _ | apply Off.set | (refine' Off.new ?_ ?h; (case h => assumption)) | (refine' Off.trans ?_ ?f; (case f => assumption))))
local macro_rules | `(tactic| walk_at "hp") => `(tactic| with_reducible first | assumption | exact upd_same | ((first | (refine' hp_new ?nn ?hp; (case nn => assumption)) | (refine' hp_set ?ne ?hp; (case ne => walk_at "ne")) | (refine' Off.get ?f ?ne ?hp; (case f => assumption); (case ne => walk_at "ne"))); (case hp => walk_at "hp")))
local macro_rules | `(tactic| walk_at "sq") => `(tactic| with_reducible first | assumption | (refine' SqL.of ?hh; (case hh => walk_at "hp")) | ((first | (refine' sq_new ?nn ?sq; (case nn => assumption)) | (refine' sq_set ?ne ?sq; (case ne => walk_at "ne")) | (refine' Off.seq ?f ?ne ?sq; (case f => assumption); (case ne => walk_at "ne"))); (case sq => walk_at "sq")))
local macro_rules | `(tactic| walk_at "sqt") => `(tactic| with_reducible first | assumption | (refine' SqT.of ?hh; (case hh => walk_at "hp")) | ((first | (refine' sqt_new ?nn ?sq; (case nn => assumption)) | (refine' sqt_set ?ne ?sq; (case ne => walk_at "ne")) | (refine' Off.seqT ?f ?ne ?sq; (case f => assumption); (case ne => walk_at "ne"))); (case sq => walk_at "sqt")))
/- straight-line steps of a reading -/
local macro_rules | `(tactic| walk_at "at") => `(tactic| first | assumption | rfl | exact atI_nat (j := 0) rfl | exact atI_nat (j := 1) rfl | exact atI_nat (j := 2) rfl | exact at_ints (by omega) (by omega))
local macro_rules | `(tactic| walk_at "sz") => `(tactic| first | assumption | decide | exact sz4 (by omega) | exact sz4' (by omega) | (simp only [List.length_map, List.length_append, List.length_cons, List.length_nil, List.length_range, List.length_replicate]; first | exact sz4 (by omega) | exact sz4' (by omega) | omega))
local macro_rules | `(tactic| walk_at "mul") => `(tactic| first | exact .inr ⟨by decide, by decide⟩ | exact mul_fm (by decide) (by decide) | exact .inl ⟨by omega, by omega⟩ | exact .inr ⟨by omega, by omega⟩)
local macro_rules | `(tactic| walk_at "div") => `(tactic| with_reducible first | exact div97 | exact div3 | exact div2 | exact div_m (by assumption) (by assumption))
local macro_rules | `(tactic| walk_at "nz") => `(tactic| first | decide | omega)
local macro_rules | `(tactic| walk_at "rd") => `(tactic| repeat' walk_at "rd1")
local macro_rules | `(tactic| walk_at "rdA") => `(tactic| with_reducible first
  | refine rd_op ?_
  | refine rd_c ?_
  | refine rd_cb ?_
  | refine rd_cons ?_
  | refine rd_nil ?_
  | refine rd_bl ?_
  | refine rd_ii ?_
  | refine rd_M1 ?_
  | refine rd_M0 ?_
  | refine rd_isS ?_
  | refine rd_test ?_
  | refine rd_B ?_
  | refine rd_and ?_
  | refine rd_or ?_
  | refine rd_not ?_
  | refine rd_andV ?_
  | refine rd_orV ?_
  | refine rd_notV ?_
  | refine rd_ifE ?_
  | refine rd_chain ?_
  | refine rd_seq ?_
  | refine rd_if ?_
  | refine rd_asg ?_
  | refine rd_gname ?_
  | refine rd_gsub ?_
  | refine rd_drop ?_
  | refine rd_ret ?_
  | refine rd_retN ?_
  | refine rd_brk ?_
  | refine rd_cnt ?_
  | refine rd_next ?_
  | refine rd_tup ?_
  | refine rd_lst ?_
  | refine rd_BM ?_
  | refine rd_gcons ?_
  | refine rd_gnil ?_
  | refine rd_sl ?_
  | refine rd_nopart ?_
  | refine rd_part ?_
  | refine rd_un ?_
  | refine rd_call ?_
  | refine rd_callN ?_
  | refine rd_fld ?_
  | refine rd_sfld ?_
  | refine rd_meth ?_
  | refine rd_make ?_
  | refine rd_stat ?_
  | refine rv_stat ?_
  | refine rd_lenSet ?_
  | refine rd_dget ?_
  | refine rd_din ?_
  | refine rd_dnin ?_
  | refine rd_dput ?_
  | refine rd_dnewK ?_
  | refine rd_dnewT ?_
  | refine rd_listRg ?_
  | refine rd_rg1 ?_
  | refine rd_rg2 ?_
  | refine rv_i2 ?_
  | refine rd_yes ?_
  | refine rd_iList ?_
  | refine rd_iTup ?_
  | refine rd_augS ?_
  | refine rv_ipI ?_
  | refine rd_zipA ?_
  | refine rd_enumT ?_
  | refine rd_for ?_
  | refine rd_rng1 ?_
  | refine rd_revL ?_
  | refine rv_addI ?_
  | refine rv_sub ?_
  | refine rv_lt ?_
  | refine rv_le ?_
  | refine rv_gt ?_
  | refine rv_ge ?_
  | refine rv_eqI ?_
  | refine rv_neI ?_
  | refine rv_eqS ?_
  | refine rv_eqB ?_
  | refine rv_neS ?_
  | refine rv_neB ?_
  | refine rv_int ?_
  | refine rv_inS ?_
  | refine rv_isNn ?_
  | refine rv_isNr ?_
  | refine rv_isNi ?_
  | refine rv_isNb ?_
  | refine rv_isNs ?_
  | refine rv_notNn ?_
  | refine rv_notNr ?_
  | refine rv_notNi ?_
  | refine rv_ninS ?_
  | refine rv_abs ?_
  | refine rv_max2 ?_
  | refine rv_min2 ?_
  | refine rv_ord ?_
  | refine rv_neg ?_
  | refine iteT ?_
  | refine iteF ?_
  | refine iteD (fun h => ?_) (fun h => ?_)
  | refine iteND (fun h => ?_) (fun h => ?_))
local macro_rules | `(tactic| walk_at "rd1") => `(tactic| first
  | ((with_reducible refine' rd_andB ?h ?_); (case h => (intro Qe hq; walk_at "rd"; exact hq)))
  | ((with_reducible refine' rd_orB ?h ?_); (case h => (intro Qe hq; walk_at "rd"; exact hq)))
  | walk_at "rdA"
  | ((with_reducible refine' rd_var ?h ?_); (case h => rfl))
  | ((with_reducible refine' rd_wipe ?h ?_); (case h => rfl))
  | ((with_reducible refine' rd_aug ?h ?_); (case h => rfl))
  | ((with_reducible refine' rv_ixL ?h ?c ?_); (case h => walk_at "sq"); (case c => walk_at "at"))
  | ((with_reducible refine' rv_ixS ?h ?c ?_); (case h => walk_at "sz"); (case c => walk_at "at"))
  | ((with_reducible refine' rv_setL ?h ?c ?_); (case h => walk_at "hp"); (case c => rfl))
  | ((with_reducible refine' rv_mulI ?h ?_); (case h => walk_at "mul"))
  | ((with_reducible refine' rv_mod ?h ?_); (case h => walk_at "nz"))
  | ((with_reducible refine' rv_div ?h ?_); (case h => walk_at "div"))
  | ((with_reducible refine' rv_pow ?h ?_); (case h => exact ⟨by decide, by decide, by decide⟩))
  | ((with_reducible refine' rv_get ?h ?h0 ?c ?_); (case h => walk_at "sq"); (case h0 => omega); (case c => walk_at "at"))
  | ((with_reducible refine' rv_lenL ?h ?_); (case h => walk_at "sq"))
  | ((with_reducible refine' rv_lenS ?h ?_); (case h => walk_at "sz"))
  | ((with_reducible refine' rv_addS ?h ?_); (case h => walk_at "sz"))
  | ((with_reducible refine' rd_tyL ?h ?_); (case h => walk_at "sq"))
  | (with_reducible refine rd_tyS ?_)
  | ((with_reducible refine' rv_inL ?h ?hx ?hf ?_); (case h => walk_at "sq"); (case hx => rfl); (case hf => rfl))
  | ((with_reducible refine' rv_ninL ?h ?hx ?hf ?_); (case h => walk_at "sq"); (case hx => rfl); (case hf => rfl))
  | ((with_reducible refine' rv_all ?h ?_); (case h => walk_at "sq"))
  | ((with_reducible refine' rv_addL ?h1 ?h2 ?h3 (fun p hp => ?_)); (case h1 => walk_at "hp"); (case h2 => walk_at "hp"); (case h3 => walk_at "sz"))
  | (with_reducible refine iteB (fun h => ?_) (fun h => ?_))
  | (refine ⟨rfl, rfl, ?_⟩)
  | ((with_reducible refine' rv_up ?h ?_); (case h => omega))
  | ((with_reducible refine' rv_iL ?h ?_); (case h => walk_at "sq"))
  | ((with_reducible refine' rv_iT ?h ?_); (case h => walk_at "sqt"))
  | ((with_reducible refine' rv_listL ?h (fun p hp => ?_)); (case h => walk_at "sq"))
  | ((with_reducible refine' rv_listT ?h (fun p hp => ?_)); (case h => walk_at "sqt"))
  | ((with_reducible refine' rv_tupL ?h (fun p hp => ?_)); (case h => walk_at "sq"))
  | ((with_reducible refine' rv_tupT ?h ?_); (case h => walk_at "sqt"))
  | ((with_reducible refine' rv_ixT ?h ?c ?_); (case h => walk_at "sqt"); (case c => walk_at "at"))
  | ((with_reducible refine' rd_gtup ?h ?c ?_); (case h => walk_at "sqt"); (case c => rfl))
  | ((with_reducible refine' rv_lenT ?h ?_); (case h => walk_at "sqt"))
  | ((with_reducible refine' rv_isiB ?h ?_); (case h => with_reducible first | exact isi_bool_bool | exact isi_bool_int | exact isi_bool_str | exact isi_bool_list | exact isi_bool_tuple | exact isi_bool_dict))
  | ((with_reducible refine' rv_isiI ?h ?_); (case h => with_reducible first | exact isi_int_bool | exact isi_int_int | exact isi_int_str | exact isi_int_list | exact isi_int_tuple | exact isi_int_dict))
  | ((with_reducible refine' rv_isiS ?h ?_); (case h => with_reducible first | exact isi_str_bool | exact isi_str_int | exact isi_str_str | exact isi_str_list | exact isi_str_tuple | exact isi_str_dict))
  | ((with_reducible refine' rv_isiN ?h ?_); (case h => with_reducible first | exact isi_NoneType_bool | exact isi_NoneType_int | exact isi_NoneType_str | exact isi_NoneType_list | exact isi_NoneType_tuple | exact isi_NoneType_dict))
  | ((with_reducible refine' rv_isiL ?e ?h ?_); (case e => walk_at "hp"); (case h => with_reducible first | exact isi_list_bool | exact isi_list_int | exact isi_list_str | exact isi_list_list | exact isi_list_tuple | exact isi_list_dict))
  | ((with_reducible refine' rv_isiT ?e ?h ?_); (case e => walk_at "hp"); (case h => with_reducible first | exact isi_tuple_bool | exact isi_tuple_int | exact isi_tuple_str | exact isi_tuple_list | exact isi_tuple_tuple | exact isi_tuple_dict))
  | ((with_reducible refine' rv_revL ?h ?_); (case h => walk_at "sq"))
  | (with_reducible refine fun (p : Addr) (hp : _ = none) => ?_)
  | ((with_reducible refine' rv_slL ?h (fun p hp => ?_)); (case h => walk_at "sq"))
  | ((with_reducible refine' rv_slS ?h ?_); (case h => walk_at "sz"))
  | ((with_reducible refine' rv_ext ?h ?h2 ?c ?_); (case h => walk_at "hp"); (case h2 => walk_at "hp"); (case c => walk_at "sz"))
  | (refine ⟨(by simp only [List.length_cons, List.length_nil]; decide), fun p hp => ?_⟩)
  | ((with_reducible refine' rv_app ?h ?c ?_); (case h => walk_at "hp"); (case c => walk_at "sz"))
  )
local macro_rules | `(tactic| walk_at "bag") => `(tactic| first | assumption | (refine ⟨_, _, _, _, _, upd_same, (by assumption), ?hp, (by omega), (by omega)⟩; (case hp => walk_at "hp")) | exact ⟨_, _, _, _, _, (by assumption), (by assumption), (by assumption), (by assumption), (by assumption)⟩ | (refine BagAt.new ?_ (by assumption); walk_at "bag") | (refine BagAt.put ?_ (by assumption) (by assumption); walk_at "bag"))

section
variable {P : Program} {w : World} {K : PySem.W.Frag} {mg : Str → Option Value} {base : Heap}
abbrev Bnd (x : Int) : Prop := 0 ≤ x ∧ x ≤ 1000000000
def spCostRows : Sp := fun vs H Q _ => ∃ (b c : Addr) (cs : List Int) (n : Nat), vs = [.ref b, .int n] ∧ n ≤ 100 ∧ BagAt b c cs H ∧ ∀ H' l ls tab, Off b H H' → BagAt b c cs H' → TabAt H' l ls tab → tab.length = n → (∀ row ∈ tab, row.length = n) → (∀ i, i < n → gT tab i i = 0) → (∀ i j, Bnd (gT tab i j)) → ls.Nodup → l ∉ ls → H l = none → (∀ r ∈ ls, H r = none) → Q (.ref l) H'
theorem gT_nil (i j : Nat) : gT [] i j = 0 := by unfold gT; rfl
theorem gT_app {tab : List (List Int)} {row : List Int} (i j : Nat) : gT (tab ++ [row]) i j = if i < tab.length then gT tab i j else if i = tab.length then row.getD j 0 else 0 := by
  unfold gT
  rw [List.getD_eq_getElem?_getD (l := tab ++ [row]), List.getElem?_append]
  by_cases h : i < tab.length
  · rw [if_pos h, if_pos h, List.getD_eq_getElem?_getD (l := tab)]
  · rw [if_neg h, if_neg h]
    by_cases h2 : i = tab.length
    · rw [if_pos h2, h2, Nat.sub_self]; rfl
    · rw [if_neg h2, List.getElem?_eq_none (by simp; omega)]; rfl
theorem ok_law_cost_rows (T : Txt K mg) : FnOk P w K mg base CX0 2 T.f_law_cost_rows T.fd_law_cost_rows ["bag", "size"] spCostRows := by
  refine T.F_law_cost_rows.ok sc_law_cost_rows (fun vs H Q E h => ?_) (fun cdv A outer s H vs Q E hr h => ?_)
  · obtain ⟨b, c, cs, n, rfl, _⟩ := h
    rfl
  · obtain ⟨b, c, cs, n, rfl, hn, B, q⟩ := h
    refine ⟨_, (pss_cons (ps_set (i := 2) sc_law_cost_rows.nd rfl (by first | exact Or.inl rfl | exact Or.inr rfl) (pe_call (ok_law_draw T) (hr.mono (by omega)) (by rfl) T.g_law_draw T.F_law_draw.kp T.b_law_draw .nil pass0 (pa_cons (pv 0) (pa_cons pe_int pa_nil))))
   (pss_cons (ps_set (i := 3) sc_law_cost_rows.nd rfl (by first | exact Or.inl rfl | exact Or.inr rfl) (pe_lst pa_nil))
   (pss_cons (ps_for PassesOwn.never rfl (pi_range1 rfl T.n_range (pa_cons (pv 1) pa_nil)) (pg_name (i := 4) sc_law_cost_rows.nd rfl (by first | exact Or.inl rfl | exact Or.inr rfl))
    (pss_cons (ps_set (i := 5) sc_law_cost_rows.nd rfl (by first | exact Or.inl rfl | exact Or.inr rfl) (pe_lst pa_nil))
    (pss_cons (ps_for PassesOwn.never rfl (pi_range1 rfl T.n_range (pa_cons (pv 1) pa_nil)) (pg_name (i := 6) sc_law_cost_rows.nd rfl (by first | exact Or.inl rfl | exact Or.inr rfl))
     (pss_cons (ps_set (i := 7) sc_law_cost_rows.nd rfl (by first | exact Or.inl rfl | exact Or.inr rfl) pe_int)
     (C8.pss_cut (ps_if (PW.pt (pw_and (pt_cmpR dNe (pv 4) (pv 6) (nomark _)) (pw_and1 (pt_cmpR dEq (pv 2) pe_int (nomark _)))))
      (pss_one (ps_set (i := 7) sc_law_cost_rows.nd rfl (by first | exact Or.inl rfl | exact Or.inr rfl) (pe_call (ok_law_draw T) (hr.mono (by omega)) (by rfl) T.g_law_draw T.F_law_draw.kp T.b_law_draw .nil pass0 (pa_cons (pv 0) (pa_cons pe_int pa_nil)))))
      (pss_one (ps_if (PW.pt (pw_and (pt_cmpR dNe (pv 4) (pv 6) (nomark _)) (pw_and1 (pt_cmpR dEq (pv 2) pe_int (nomark _)))))
       (pss_one (ps_set (i := 7) sc_law_cost_rows.nd rfl (by first | exact Or.inl rfl | exact Or.inr rfl) (pe_call (ok_law_draw T) (hr.mono (by omega)) (by rfl) T.g_law_draw T.F_law_draw.kp T.b_law_draw .nil pass0 (pa_cons (pv 0) (pa_cons pe_int pa_nil)))))
       (pss_one (ps_if (PW.pt (pw_and (pt_cmpR dNe (pv 4) (pv 6) (nomark _)) (pw_and1 (pt_cmpR dEq (pv 2) pe_int (nomark _)))))
        (pss_one (ps_set (i := 7) sc_law_cost_rows.nd rfl (by first | exact Or.inl rfl | exact Or.inr rfl) (pe_call (ok_law_draw T) (hr.mono (by omega)) (by rfl) T.g_law_draw T.F_law_draw.kp T.b_law_draw .nil pass0 (pa_cons (pv 0) (pa_cons pe_int pa_nil)))))
        (pss_one (ps_if (PW.pt (pw_and (pt_cmpR dNe (pv 4) (pv 6) (nomark _)) (pw_and1 (pt_cmpR dEq (pv 2) pe_int (nomark _)))))
         (pss_one (ps_set (i := 7) sc_law_cost_rows.nd rfl (by first | exact Or.inl rfl | exact Or.inr rfl) (pe_ix (dIx K) (pe_lst (pa_cons pe_int (pa_cons pe_int (pa_cons pe_int (pa_cons pe_int pa_nil))))) (pe_call (ok_law_draw T) (hr.mono (by omega)) (by rfl) T.g_law_draw T.F_law_draw.kp T.b_law_draw .nil pass0 (pa_cons (pv 0) (pa_cons pe_int pa_nil))) (fun _ _ => rfl))))
         pss_nil)))))))
     (pss_one (ps_expr (pe_bm PySem.F.plainAttrs_list PySem.F.slot_list_append PySem.F.type_list_append mt_append (pv 5) (pa_cons (pv 7) pa_nil)))))))
    (pss_one (ps_expr (pe_bm PySem.F.plainAttrs_list PySem.F.slot_list_append PySem.F.type_list_append mt_append (pv 3) (pa_cons (pv 5) pa_nil)))))))
   (pss_one (ps_ret (pv 3)))))), ?_⟩
    walk_at "rd"
    refine ⟨b, c, cs, 5, rfl, by decide, by decide, B, fun H1 wy f1 B1 w0 w1 => ?_⟩
    walk_at "rd"
    rename_i l hl
    have lb : l ≠ b := B1.ne hl
    have lc : l ≠ c := B1.ne2 hl
    have l0 : H l = none := f1.fresh lb hl
    refine ⟨_, rfl, by omega, by omega, ?_⟩
    refine for_range (lo := 0) (n := ((n : Int)).toNat) (fun i σ H' => ∃ (x4 x5 x6 x7 : Option V) (ls : List Addr) (tab : List (List Int)), σ = [some (.ref b), some (.int n), some (.int wy), some (.ref l), x4, x5, x6, x7] ∧
      Off b H H' ∧ BagAt b c cs H' ∧ TabAt H' l ls tab ∧ tab.length = i ∧ (∀ row ∈ tab, row.length = n) ∧ (∀ k, k < i → gT tab k k = 0) ∧ (∀ k j, Bnd (gT tab k j)) ∧ ls.Nodup ∧ l ∉ ls ∧ (∀ r ∈ ls, H r = none ∧ r ≠ b ∧ r ≠ c))
      ⟨none, none, none, none, [], [], rfl, f1.new hl, B1.new hl, ⟨upd_same, .nil⟩, rfl, (fun _ h => nomatch h), (fun _ h => absurd h (by omega)), (fun k j => by rw [gT_nil]; decide), List.nodup_nil, (fun h => nomatch h), fun _ h => nomatch h⟩ ?_ ?_
    · rintro i σ H2 hi ⟨x4, x5, x6, x7, ls, tab, rfl, f2, B2, TA, lt, sq, dg, ng, nd, nl, fr⟩
      rw [show (0 : Int) + (i : Int) = i by omega]
      have ll := TA.len
      walk_at "rd"
      rename_i r hr0
      have rb : r ≠ b := B2.ne hr0
      have rc : r ≠ c := B2.ne2 hr0
      have rn : H r = none := f2.fresh rb hr0
      have rl : r ≠ l := (ne_of_none TA.tb hr0).symm
      have rls : ∀ x ∈ ls, x ≠ r := fun x hx e => by
        obtain ⟨k, hk, e2⟩ := List.mem_iff_getElem.mp hx
        obtain ⟨row, _, h3⟩ := Paired.get1 TA.rw (List.getElem?_eq_getElem hk)
        rw [e2, e, hr0] at h3; cases h3
      have TA2 : TabAt (upd H2 r (.lst [])) l ls tab := TA.same (same_upd hr0)
      refine ⟨_, rfl, by omega, by omega, ?_⟩
      refine for_range (lo := 0) (n := ((n : Int)).toNat) (fun j σ H' => ∃ (x6 x7 : Option V) (row : List Int), σ = [some (.ref b), some (.int n), some (.int wy), some (.ref l), some (.int (i : Int)), some (.ref r), x6, x7] ∧
        Off b H H' ∧ BagAt b c cs H' ∧ TabAt H' l ls tab ∧ H' r = some (.lst (row.map V.int)) ∧ row.length = j ∧ (i < j → row.getD i 0 = 0) ∧ (∀ k, Bnd (row.getD k 0)))
        ⟨_, _, [], rfl, f2.new hr0, B2.new hr0, TA2, upd_same, rfl, fun h => absurd h (by omega), fun k => by show Bnd 0; decide⟩ ?_ ?_
      · rintro j σ H3 hj ⟨x6, x7, row, rfl, f3, B3, TA3, er, lr, rd0, rng⟩
        rw [show (0 : Int) + (j : Int) = j by omega]
        walk_at "rd"
        refine ⟨fun σ H' => ∃ v : Int, σ = [some (.ref b), some (.int n), some (.int wy), some (.ref l), some (.int (i : Int)), some (.ref r), some (.int (j : Int)), some (.int v)] ∧ Bnd v ∧ (i = j → v = 0) ∧ Off b H3 H' ∧ BagAt b c cs H', ?_, ?_⟩
        · have z : ∃ v : Int, [some (.ref b), some (.int n), some (.int wy), some (.ref l), some (.int (i : Int)), some (.ref r), some (.int (j : Int)), some (V.int 0)] = [some (.ref b), some (.int n), some (.int wy), some (.ref l), some (.int (i : Int)), some (.ref r), some (.int (j : Int)), some (.int v)] ∧ Bnd v ∧ (i = j → v = 0) ∧ Off b H3 H3 ∧ BagAt b c cs H3 := ⟨0, rfl, by decide, fun _ => rfl, Off.refl _ _, B3⟩
          walk_at "rd"
          all_goals first | exact z | (exfalso; omega) | skip
          all_goals first
            | (refine ⟨b, c, cs, 2, rfl, by decide, by decide, B3, fun H4 v f4 B4 v0 v1 => ?_⟩
               exact ⟨v, rfl, ⟨v0, by omega⟩, fun e => absurd (show (i : Int) = j by omega) (by assumption), f4, B4⟩)
            | (refine ⟨b, c, cs, 10, rfl, by decide, by decide, B3, fun H4 v f4 B4 v0 v1 => ?_⟩
               exact ⟨v, rfl, ⟨v0, by omega⟩, fun e => absurd (show (i : Int) = j by omega) (by assumption), f4, B4⟩)
            | (refine ⟨b, c, cs, 1000000001, rfl, by decide, by decide, B3, fun H4 v f4 B4 v0 v1 => ?_⟩
               exact ⟨v, rfl, ⟨v0, by omega⟩, fun e => absurd (show (i : Int) = j by omega) (by assumption), f4, B4⟩)
            | skip
          all_goals
            rename_i p hp
            refine ⟨b, c, cs, 4, rfl, by decide, by decide, B3.new hp, fun H4 r4 f4 B4 r40 r41 => ?_⟩
            obtain ⟨v, hv, w, rfl, w0⟩ := at_all (xs := [.int 0, .int 0, .int 1, .int 5]) (P := fun v => ∃ i : Int, v = .int i ∧ Bnd i) (by
              intro v hv
              simp only [List.mem_cons, List.not_mem_nil, or_false] at hv
              rcases hv with rfl | rfl | rfl | rfl <;> exact ⟨_, rfl, by decide⟩) r40 r41
            have pb : p ≠ b := B3.ne hp
            have ep4 := f4.get pb upd_same
            walk_at "rd"
            exact ⟨w, rfl, w0, fun e => absurd (show (i : Int) = j by omega) (by assumption), ((Off.refl b H3).new hp).trans f4, B4⟩
        · rintro σ H4 ⟨v, rfl, v0, vd, f4, B4⟩
          have TA4 : TabAt H4 l ls tab := TA3.offs (S := [b]) (OffS.of_off f4 (by simp)) (by simpa using lb) (fun x hx => by simpa using (fr x hx).2.1)
          have er4 := f4.get rb er
          walk_at "rd"
          refine ⟨_, _, row ++ [v], rfl, (f3.trans f4).mut rn, B4.put rb rc, ?_, ?_, by simp [lr], ?_, ?_⟩
          · exact TA4.offs (S := [r]) ((OffS.refl _ _).set (by simp)) (by simpa using rl.symm) (fun x hx => by simpa using rls x hx)
          · rw [upd_same, List.map_append]; rfl
          · intro h
            rw [List.getD_eq_getElem?_getD, List.getElem?_append]
            by_cases h2 : i < row.length
            · rw [if_pos h2, ← List.getD_eq_getElem?_getD]; exact rd0 (by omega)
            · rw [if_neg h2, show i - row.length = 0 by omega]
              exact vd (by omega)
          · intro k
            rw [List.getD_eq_getElem?_getD, List.getElem?_append]
            by_cases h2 : k < row.length
            · rw [if_pos h2, ← List.getD_eq_getElem?_getD]; exact rng k
            · rw [if_neg h2]
              cases hk : k - row.length with
              | zero => exact v0
              | succ m => show Bnd 0; decide
      · rintro σ H3 ⟨x6, x7, row, rfl, f3, B3, TA3, er, lr, rd0, rng⟩
        have lr' : row.length = n := by omega
        have el3 := TA3.tb
        walk_at "rd"
        have mem : ∀ x ∈ ls, x ≠ l := fun x hx e => nl (e ▸ hx)
        refine ⟨_, _, _, _, ls ++ [r], tab ++ [row], rfl, f3.mut l0, B3.put lb lc, ⟨by rw [upd_same, List.map_append]; rfl, ?_⟩, by simp [lt], ?_, ?_, ?_, ?_, ?_, ?_⟩
        · refine Paired.app ?_ (.cons (hp_set rl er) .nil)
          refine Paired.of_get (Paired.len TA3.rw) fun k x row' h1 h2 => ?_
          obtain ⟨row2, e2, h3⟩ := Paired.get1 TA3.rw h1
          rw [h2] at e2; cases e2
          exact hp_set (mem x (List.mem_of_getElem? h1)) h3
        · intro x hx
          rcases List.mem_append.mp hx with hx | hx
          · exact sq x hx
          · rw [List.mem_singleton.mp hx]; exact lr'
        · intro k hk
          rw [gT_app]
          by_cases h : k < tab.length
          · rw [if_pos h]; exact dg k (by omega)
          · rw [if_neg h, if_pos (by omega)]
            rw [show k = i by omega]
            exact rd0 (by omega)
        · intro k j
          rw [gT_app]
          split
          · exact ng k j
          · split
            · exact rng j
            · decide
        · exact List.nodup_append.mpr ⟨nd, List.nodup_cons.mpr ⟨by simp, List.nodup_nil⟩, fun x hx y hy e => rls x hx (by rw [e, List.mem_singleton.mp hy])⟩
        · intro h
          rcases List.mem_append.mp h with h | h
          · exact nl h
          · exact rl (List.mem_singleton.mp h).symm
        · intro x hx
          rcases List.mem_append.mp hx with hx | hx
          · exact fr x hx
          · rw [List.mem_singleton.mp hx]; exact ⟨rn, rb, rc⟩
    · rintro σ H2 ⟨x4, x5, x6, x7, ls, tab, rfl, f2, B2, TA, lt, sq, dg, ng, nd, nl, fr⟩
      walk_at "rd"
      exact q H2 l ls tab f2 B2 TA (by omega) sq (fun i hi => dg i (by omega)) ng nd nl l0 fun r hr => (fr r hr).1
end
end K29
namespace K29
open PySem PySem.Spec PyProof.Rows L2 D0
local macro_rules | `(tactic| walk_at "neB") => `(tactic| with_reducible first | assumption | (apply Ne.symm; assumption) | (refine' BagAt.ne ?x ?h; (case h => assumption); (case x => assumption)))
local macro_rules | `(tactic| walk_at "hq") => `(tactic| with_reducible first | assumption | exact upd_same | ((first | (refine' hp_new ?nn ?hq; (case nn => assumption)) | (refine' Off.get ?f ?ne ?hq; (case f => assumption); (case ne => walk_at "neB"))); (case hq => walk_at "hq")))
local macro_rules | `(tactic| walk_at "neA") => `(tactic| with_reducible first | (refine' BagAt.ne ?x ?h; (case h => assumption); (case x => assumption)) | (refine' ne_of_none ?x ?h; (case h => assumption); (case x => walk_at "hq")))
local macro_rules | `(tactic| walk_at "ne") => `(tactic| with_reducible first | assumption | (apply Ne.symm; assumption) | walk_at "neA" | (apply Ne.symm; walk_at "neA"))
local macro_rules | `(tactic| walk_at "off") => `(tactic| with_reducible repeat' (first | assumption | exact Off.refl _ _ | apply Off.set | (refine' Off.new ?_ ?h; (case h => assumption)) | (refine' Off.trans ?_ ?f; (case f => assumption))))
local macro_rules | `(tactic| walk_at "hp") => `(tactic| with_reducible first | assumption | exact upd_same | ((first | (refine' hp_new ?nn ?hp; (case nn => assumption)) | (refine' hp_set ?ne ?hp; (case ne => walk_at "ne")) | (refine' Off.get ?f ?ne ?hp; (case f => assumption); (case ne => walk_at "ne"))); (case hp => walk_at "hp")))
local macro_rules | `(tactic| walk_at "sq") => `(tactic| with_reducible first | assumption | (refine' SqL.of ?hh; (case hh => walk_at "hp")) | ((first | (refine' sq_new ?nn ?sq; (case nn => assumption)) | (refine' sq_set ?ne ?sq; (case ne => walk_at "ne")) | (refine' Off.seq ?f ?ne ?sq; (case f => assumption); (case ne => walk_at "ne"))); (case sq => walk_at "sq")))
local macro_rules | `(tactic| walk_at "sqt") => `(tactic| with_reducible first | assumption | (refine' SqT.of ?hh; (case hh => walk_at "hp")) | ((first | (refine' sqt_new ?nn ?sq; (case nn => assumption)) | (refine' sqt_set ?ne ?sq; (case ne => walk_at "ne")) | (refine' Off.seqT ?f ?ne ?sq; (case f => assumption); (case ne => walk_at "ne"))); (case sq => walk_at "sqt")))
/- straight-line steps of a reading -/
local macro_rules | `(tactic| walk_at "at") => `(tactic| first | assumption | rfl | exact atI_nat (j := 0) rfl | exact atI_nat (j := 1) rfl | exact atI_nat (j := 2) rfl | exact at_ints (by omega) (by omega))
local macro_rules | `(tactic| walk_at "sz") => `(tactic| first | assumption | decide | exact sz4 (by omega) | exact sz4' (by omega) | (simp only [List.length_map, List.length_append, List.length_cons, List.length_nil, List.length_range, List.length_replicate]; first | exact sz4 (by omega) | exact sz4' (by omega) | omega))
local macro_rules | `(tactic| walk_at "mul") => `(tactic| first | exact .inr ⟨by decide, by decide⟩ | exact mul_fm (by decide) (by decide) | exact .inl ⟨by omega, by omega⟩ | exact .inr ⟨by omega, by omega⟩)
local macro_rules | `(tactic| walk_at "div") => `(tactic| with_reducible first | exact div97 | exact div3 | exact div2 | exact div_m (by assumption) (by assumption))
local macro_rules | `(tactic| walk_at "nz") => `(tactic| first | decide | omega)
local macro_rules | `(tactic| walk_at "rd") => `(tactic| repeat' walk_at "rd1")
local macro_rules | `(tactic| walk_at "rdA") => `(tactic| with_reducible first
  | refine rd_op ?_
  | refine rd_c ?_
  | refine rd_cb ?_
  | refine rd_cons ?_
  | refine rd_nil ?_
  | refine rd_bl ?_
  | refine rd_ii ?_
  | refine rd_M1 ?_
  | refine rd_M0 ?_
  | refine rd_isS ?_
  | refine rd_test ?_
  | refine rd_B ?_
  | refine rd_and ?_
  | refine rd_or ?_
  | refine rd_not ?_
  | refine rd_andV ?_
  | refine rd_orV ?_
  | refine rd_notV ?_
  | refine rd_ifE ?_
  | refine rd_chain ?_
  | refine rd_seq ?_
  | refine rd_if ?_
  | refine rd_asg ?_
  | refine rd_gname ?_
  | refine rd_gsub ?_
  | refine rd_drop ?_
  | refine rd_ret ?_
  | refine rd_retN ?_
  | refine rd_brk ?_
  | refine rd_cnt ?_
  | refine rd_next ?_
  | refine rd_tup ?_
  | refine rd_lst ?_
  | refine rd_BM ?_
  | refine rd_gcons ?_
  | refine rd_gnil ?_
  | refine rd_sl ?_
  | refine rd_nopart ?_
  | refine rd_part ?_
  | refine rd_un ?_
  | refine rd_call ?_
  | refine rd_callN ?_
  | refine rd_fld ?_
  | refine rd_sfld ?_
  | refine rd_meth ?_
  | refine rd_make ?_
  | refine rd_stat ?_
  | refine rv_stat ?_
  | refine rd_lenSet ?_
  | refine rd_dget ?_
  | refine rd_din ?_
  | refine rd_dnin ?_
  | refine rd_dput ?_
  | refine rd_dnewK ?_
  | refine rd_dnewT ?_
  | refine rd_listRg ?_
  | refine rd_rg1 ?_
  | refine rd_rg2 ?_
  | refine rv_i2 ?_
  | refine rd_yes ?_
  | refine rd_iList ?_
  | refine rd_iTup ?_
  | refine rd_augS ?_
  | refine rv_ipI ?_
  | refine rd_zipA ?_
  | refine rd_enumT ?_
  | refine rd_for ?_
  | refine rd_rng1 ?_
  | refine rd_revL ?_
  | refine rv_addI ?_
  | refine rv_sub ?_
  | refine rv_lt ?_
  | refine rv_le ?_
  | refine rv_gt ?_
  | refine rv_ge ?_
  | refine rv_eqI ?_
  | refine rv_neI ?_
  | refine rv_eqS ?_
  | refine rv_eqB ?_
  | refine rv_neS ?_
  | refine rv_neB ?_
  | refine rv_int ?_
  | refine rv_inS ?_
  | refine rv_isNn ?_
  | refine rv_isNr ?_
  | refine rv_isNi ?_
  | refine rv_isNb ?_
  | refine rv_isNs ?_
  | refine rv_notNn ?_
  | refine rv_notNr ?_
  | refine rv_notNi ?_
  | refine rv_ninS ?_
  | refine rv_abs ?_
  | refine rv_max2 ?_
  | refine rv_min2 ?_
  | refine rv_ord ?_
  | refine rv_neg ?_
  | refine iteT ?_
  | refine iteF ?_
  | refine iteD (fun h => ?_) (fun h => ?_)
  | refine iteND (fun h => ?_) (fun h => ?_))
local macro_rules | `(tactic| walk_at "rd1") => `(tactic| first
  | ((with_reducible refine' rd_andB ?h ?_); (case h => (intro Qe hq; walk_at "rd"; exact hq)))
  | ((with_reducible refine' rd_orB ?h ?_); (case h => (intro Qe hq; walk_at "rd"; exact hq)))
  | walk_at "rdA"
  | ((with_reducible refine' rd_var ?h ?_); (case h => rfl))
  | ((with_reducible refine' rd_wipe ?h ?_); (case h => rfl))
  | ((with_reducible refine' rd_aug ?h ?_); (case h => rfl))
  | ((with_reducible refine' rv_ixL ?h ?c ?_); (case h => walk_at "sq"); (case c => walk_at "at"))
  | ((with_reducible refine' rv_ixS ?h ?c ?_); (case h => walk_at "sz"); (case c => walk_at "at"))
  | ((with_reducible refine' rv_setL ?h ?c ?_); (case h => walk_at "hp"); (case c => rfl))
  | ((with_reducible refine' rv_mulI ?h ?_); (case h => walk_at "mul"))
  | ((with_reducible refine' rv_mod ?h ?_); (case h => walk_at "nz"))
  | ((with_reducible refine' rv_div ?h ?_); (case h => walk_at "div"))
  | ((with_reducible refine' rv_pow ?h ?_); (case h => exact ⟨by decide, by decide, by decide⟩))
  | ((with_reducible refine' rv_get ?h ?h0 ?c ?_); (case h => walk_at "sq"); (case h0 => omega); (case c => walk_at "at"))
  | ((with_reducible refine' rv_lenL ?h ?_); (case h => walk_at "sq"))
  | ((with_reducible refine' rv_lenS ?h ?_); (case h => walk_at "sz"))
  | ((with_reducible refine' rv_addS ?h ?_); (case h => walk_at "sz"))
  | ((with_reducible refine' rd_tyL ?h ?_); (case h => walk_at "sq"))
  | (with_reducible refine rd_tyS ?_)
  | ((with_reducible refine' rv_inL ?h ?hx ?hf ?_); (case h => walk_at "sq"); (case hx => rfl); (case hf => rfl))
  | ((with_reducible refine' rv_ninL ?h ?hx ?hf ?_); (case h => walk_at "sq"); (case hx => rfl); (case hf => rfl))
  | ((with_reducible refine' rv_all ?h ?_); (case h => walk_at "sq"))
  | ((with_reducible refine' rv_addL ?h1 ?h2 ?h3 (fun p hp => ?_)); (case h1 => walk_at "hp"); (case h2 => walk_at "hp"); (case h3 => walk_at "sz"))
  | (with_reducible refine iteB (fun h => ?_) (fun h => ?_))
  | (refine ⟨rfl, rfl, ?_⟩)
  | ((with_reducible refine' rv_up ?h ?_); (case h => omega))
  | ((with_reducible refine' rv_iL ?h ?_); (case h => walk_at "sq"))
  | ((with_reducible refine' rv_iT ?h ?_); (case h => walk_at "sqt"))
  | ((with_reducible refine' rv_listL ?h (fun p hp => ?_)); (case h => walk_at "sq"))
  | ((with_reducible refine' rv_listT ?h (fun p hp => ?_)); (case h => walk_at "sqt"))
  | ((with_reducible refine' rv_tupL ?h (fun p hp => ?_)); (case h => walk_at "sq"))
  | ((with_reducible refine' rv_tupT ?h ?_); (case h => walk_at "sqt"))
  | ((with_reducible refine' rv_ixT ?h ?c ?_); (case h => walk_at "sqt"); (case c => walk_at "at"))
  | ((with_reducible refine' rd_gtup ?h ?c ?_); (case h => walk_at "sqt"); (case c => rfl))
  | ((with_reducible refine' rv_lenT ?h ?_); (case h => walk_at "sqt"))
  | ((with_reducible refine' rv_isiB ?h ?_); (case h => with_reducible first | exact isi_bool_bool | exact isi_bool_int | exact isi_bool_str | exact isi_bool_list | exact isi_bool_tuple | exact isi_bool_dict))
  | ((with_reducible refine' rv_isiI ?h ?_); (case h => with_reducible first | exact isi_int_bool | exact isi_int_int | exact isi_int_str | exact isi_int_list | exact isi_int_tuple | exact isi_int_dict))
  | ((with_reducible refine' rv_isiS ?h ?_); (case h => with_reducible first | exact isi_str_bool | exact isi_str_int | exact isi_str_str | exact isi_str_list | exact isi_str_tuple | exact isi_str_dict))
  | ((with_reducible refine' rv_isiN ?h ?_); (case h => with_reducible first | exact isi_NoneType_bool | exact isi_NoneType_int | exact isi_NoneType_str | exact isi_NoneType_list | exact isi_NoneType_tuple | exact isi_NoneType_dict))
  | ((with_reducible refine' rv_isiL ?e ?h ?_); (case e => walk_at "hp"); (case h => with_reducible first | exact isi_list_bool | exact isi_list_int | exact isi_list_str | exact isi_list_list | exact isi_list_tuple | exact isi_list_dict))
  | ((with_reducible refine' rv_isiT ?e ?h ?_); (case e => walk_at "hp"); (case h => with_reducible first | exact isi_tuple_bool | exact isi_tuple_int | exact isi_tuple_str | exact isi_tuple_list | exact isi_tuple_tuple | exact isi_tuple_dict))
  | ((with_reducible refine' rv_revL ?h ?_); (case h => walk_at "sq"))
  | (with_reducible refine fun (p : Addr) (hp : _ = none) => ?_)
  | ((with_reducible refine' rv_slL ?h (fun p hp => ?_)); (case h => walk_at "sq"))
  | ((with_reducible refine' rv_slS ?h ?_); (case h => walk_at "sz"))
  | ((with_reducible refine' rv_ext ?h ?h2 ?c ?_); (case h => walk_at "hp"); (case h2 => walk_at "hp"); (case c => walk_at "sz"))
  | (refine ⟨(by simp only [List.length_cons, List.length_nil]; decide), fun p hp => ?_⟩)
  | ((with_reducible refine' rv_app ?h ?c ?_); (case h => walk_at "hp"); (case c => walk_at "sz"))
  )
local macro_rules | `(tactic| walk_at "bag") => `(tactic| first | assumption | (refine ⟨_, _, _, _, _, upd_same, (by assumption), ?hp, (by omega), (by omega)⟩; (case hp => walk_at "hp")) | exact ⟨_, _, _, _, _, (by assumption), (by assumption), (by assumption), (by assumption), (by assumption)⟩ | (refine BagAt.new ?_ (by assumption); walk_at "bag") | (refine BagAt.put ?_ (by assumption) (by assumption); walk_at "bag"))

/-- the subsets of 0 .. k-1, in the order in which they are made -/
def subs : Nat → List (List Nat)
  | 0 => [[]]
  | k + 1 => subs k ++ (subs k).map (· ++ [k])
theorem subs_len : ∀ k, (subs k).length = 2 ^ k
  | 0 => rfl
  | k + 1 => by
    show (subs k ++ (subs k).map (· ++ [k])).length = _
    rw [List.length_append, List.length_map, subs_len k, Nat.pow_succ]; omega
theorem subs_le : ∀ k, ∀ o ∈ subs k, o.length ≤ k
  | 0, o, h => by rw [List.mem_singleton.mp h]; exact Nat.le_refl _
  | k + 1, o, h => by
    rcases List.mem_append.mp h with h | h
    · exact Nat.le_succ_of_le (subs_le k o h)
    · obtain ⟨o', h', rfl⟩ := List.mem_map.mp h
      rw [List.length_append]
      have := subs_le k o' h'
      simp; omega
def spSubsets : Sp := fun vs H Q _ => ∃ (n : Nat), vs = [.int n] ∧ n ≤ 10 ∧ ∀ H' D qs, Same H H' → H' D = some (.lst (qs.map V.ref)) → Paired (fun x o => H' x = some (.tup (natsV o))) qs (subs n) → Q (.ref D) H'
def spWithout : Sp := fun vs H Q _ => ∃ (a : Addr) (o : List Nat) (m : Nat), vs = [.ref a, .int m] ∧ o.length ≤ 100 ∧ H a = some (.tup (natsV o)) ∧ ∀ H' x, Same H H' → H' x = some (.tup (natsV (o.filter fun k => decide (k ≠ m)))) → Q (.ref x) H'
section
variable {P : Program} {w : World} {K : PySem.W.Frag} {mg : Str → Option Value} {base : Heap}
theorem ok_without (T : Txt K mg) : FnOk P w K mg base CX0 1 T.f_without T.fd_without ["subset", "member"] spWithout := by
  refine T.F_without.ok sc_without (fun vs H Q E h => ?_) (fun cdv A outer s H vs Q E hr h => ?_)
  · obtain ⟨a, o, m, rfl, _⟩ := h
    rfl
  · obtain ⟨a, o, m, rfl, lo, ea, q⟩ := h
    refine ⟨_, (pss_one (ps_ret (pe_callTy (dTuple K) (by rfl) T.n_tuple (by decide +kernel) (pa_cons (pe_lc (own := [("other", 2)]) (g := gName 2) rfl sc_without.nd  (dpi_tup K (pv 0)) (blkOk_by (own := [("other", 2)]) (N := ["subset", "member", "other"]) (sc := defScope s_without) (by decide +kernel)) (fun _ _ _ _ _ => (pg_name (i := 2) sc_without.nd rfl (by first | exact Or.inl rfl | exact Or.inr rfl))) (fun _ _ _ _ _ => (pts_one (pt_cmpR dNe (pv 2) (pv 1) (nomark _)))) (fun _ _ _ _ _ => (pv 2))) pa_nil)))), ?_⟩
    walk_at "rd"
    refine rd_lc ?_
    walk_at "rd"
    refine lc_pureF (walk_tup (K := K) (a := a) (xs := natsV o)) (fun i => decide (o.getD i 0 ≠ m)) (fun i => .int (o.getD i 0 : Nat)) (by rw [natsV_len]; omega) (fun H' s => SqT.of (s _ _ ea)) same_at ?_ ?_
    · rintro i x H' H2 Nx E hi s s2 ⟨rfl, hx⟩ hN hE
      rw [natsV_len] at hi
      rw [natsV_get, List.getElem?_eq_getElem hi] at hx
      cases hx
      have gi : o.getD i 0 = o[i] := getD_of (List.getElem?_eq_getElem hi)
      rw [gi] at hN hE
      walk_at "rd"
      · exact hN (decide_eq_true (by omega)) _ fun _ _ e => e
      · exact hE (decide_eq_false (by omega)) _ fun _ _ e => e
    · intro D H1 hD s1 e1
      rw [natsV_len, range_filter_map o 0 (fun k => decide (k ≠ m)) (fun k => V.int (k : Nat))] at e1
      replace e1 : H1 D = some (.lst (natsV (o.filter fun k => decide (k ≠ m)))) := e1
      walk_at "rd"
      rename_i u hu
      exact q _ u (s1.trans (same_upd hu)) upd_same
theorem ok_subsets (T : Txt K mg) : FnOk P w K mg base CX0 1 T.f_subsets T.fd_subsets ["size"] spSubsets := by
  refine T.F_subsets.ok sc_subsets (fun vs H Q E h => ?_) (fun cdv A outer s H vs Q E hr h => ?_)
  · obtain ⟨n, rfl, _⟩ := h
    rfl
  · obtain ⟨n, rfl, hn, q⟩ := h
    refine ⟨_, (pss_cons (ps_set (i := 1) sc_subsets.nd rfl (by first | exact Or.inl rfl | exact Or.inr rfl) (pe_lst (pa_cons (pe_tup pa_nil) pa_nil)))
   (pss_cons (ps_for PassesOwn.never rfl (pi_range1 rfl T.n_range (pa_cons (pv 0) pa_nil)) (pg_name (i := 2) sc_subsets.nd rfl (by first | exact Or.inl rfl | exact Or.inr rfl))
    (pss_one (ps_set (i := 1) sc_subsets.nd rfl (by first | exact Or.inl rfl | exact Or.inr rfl) (pe_op (dAdd K) (pv 1) (pe_lc (own := [("subset", 3)]) (g := gName 3) (tt := tYes) rfl sc_subsets.nd  (dpi_list K (pv 1)) (blkOk_by (own := [("subset", 3)]) (N := ["size", "subsets", "number", "subset"]) (sc := defScope s_subsets) (by decide +kernel)) (fun _ _ _ _ _ => (pg_name (i := 3) sc_subsets.nd rfl (by first | exact Or.inl rfl | exact Or.inr rfl))) (fun _ _ _ _ _ => pts_nil) (fun _ _ _ _ _ => (pe_tup (pa_starK K (pv 3) (pa_cons (pv 2) pa_nil)))))))))
   (pss_one (ps_ret (pv 1))))), ?_⟩
    walk_at "rd"
    rename_i e he L hL
    refine ⟨_, rfl, by omega, by omega, ?_⟩
    refine for_range (lo := 0) (n := ((n : Int)).toNat) (fun i σ H' => ∃ (D : Addr) (qs : List Addr) (x2 : Option V), σ = [some (.int n), some (.ref D), x2, none] ∧ Same H H' ∧ H' D = some (.lst (qs.map V.ref)) ∧ Paired (fun x o => H' x = some (.tup (natsV o))) qs (subs i)) ⟨L, [e], _, rfl, (same_upd he).trans (same_upd hL), upd_same, .cons (hp_new hL upd_same) .nil⟩ ?_ ?_
    · rintro i σ H1 hi ⟨D, qs, x2, rfl, s1, eD, pq⟩
      rw [show (0 : Int) + (i : Int) = i by omega]
      have lq : qs.length = 2 ^ i := by rw [Paired.len pq, subs_len]
      have l10 : 2 ^ i ≤ 1024 := Nat.pow_le_pow_right (by decide) (by omega : i ≤ 10)
      walk_at "rd"
      refine rd_lc ?_
      walk_at "rd"
      refine lc_pureT (walk_list (K := K) (a := D) (xs := qs.map V.ref)) ((subs i).map (· ++ [i])) (fun H y o => ∃ u, y = .ref u ∧ H u = some (.tup (natsV o))) (by rw [List.length_map, List.length_map, Paired.len pq]) (by rw [List.length_map]; omega) (fun H' s => SqL.of (s _ _ eD)) same_at (fun H1 H2 y r ts ⟨u, e, h⟩ => ⟨u, e, ts _ _ h⟩) ?_ ?_
      · rintro k o' x' H' H3 Nx E er s s3 ⟨rfl, hx'⟩ hN
        rw [List.getElem?_map] at er hx'
        obtain ⟨o, eo, rfl⟩ := Option.map_eq_some_iff.mp er
        obtain ⟨u, eu, rfl⟩ := Option.map_eq_some_iff.mp hx'
        obtain ⟨o2, eo2, hu⟩ := Paired.get1 pq eu
        rw [eo] at eo2; cases eo2
        have hu3 := s _ _ hu
        walk_at "rd"
        refine rd_star ?_
        walk_at "rd"
        refine rv_starT hu3 ?_
        walk_at "rd"
        have lo := subs_le i o (List.mem_of_getElem? eo)
        refine ⟨by rw [List.length_append, natsV_len]; exact sz4 (by simp; omega), fun z hz => ?_⟩
        refine hN _ _ (same_upd hz) ⟨z, rfl, ?_⟩
        rw [upd_same]
        show some (HO.tup (natsV o ++ natsV [i])) = _
        unfold natsV
        rw [List.map_append]
      · intro D2 ys H5 hD2 s5 e5 pr5
        obtain ⟨zs, rfl, pz⟩ := refs_of pr5
        have eD5 := s5 _ _ eD
        have lz : zs.length = 2 ^ i := by rw [Paired.len pz, List.length_map, subs_len]
        refine rv_addL eD5 e5 (by rw [List.length_map, List.length_map]; exact sz4 (by omega)) fun D3 hD3 => ?_
        walk_at "rd"
        refine ⟨D3, qs ++ zs, _, rfl, (s1.trans s5).trans (same_upd hD3), by rw [upd_same, List.map_append], ?_⟩
        exact Paired.app (Paired.mapP pq fun _ _ h => hp_new hD3 (s5 _ _ h)) (Paired.mapP pz fun _ _ h => hp_new hD3 h)
    · rintro σ H1 ⟨D, qs, x2, rfl, s1, eD, pq⟩
      rw [show ((n : Int)).toNat = n by omega] at pq
      walk_at "rd"
      exact q H1 D qs s1 eD pq
end
end K29
namespace K29
open PySem PySem.Spec PyProof.Rows L2 D0
local macro_rules | `(tactic| walk_at "neB") => `(tactic| with_reducible first | assumption | (apply Ne.symm; assumption) | (refine' BagAt.ne ?x ?h; (case h => assumption); (case x => assumption)))
local macro_rules | `(tactic| walk_at "hq") => `(tactic| with_reducible first | assumption | exact upd_same | ((first | (refine' hp_new ?nn ?hq; (case nn => assumption)) | (refine' Off.get ?f ?ne ?hq; (case f => assumption); (case ne => walk_at "neB"))); (case hq => walk_at "hq")))
local macro_rules | `(tactic| walk_at "neA") => `(tactic| with_reducible first | (refine' BagAt.ne ?x ?h; (case h => assumption); (case x => assumption)) | (refine' ne_of_none ?x ?h; (case h => assumption); (case x => walk_at "hq")))
local macro_rules | `(tactic| walk_at "ne") => `(tactic| with_reducible first | assumption | (apply Ne.symm; assumption) | walk_at "neA" | (apply Ne.symm; walk_at "neA"))
local macro_rules | `(tactic| walk_at "off") => `(tactic| with_reducible repeat' (first | assumption | exact Off.refl _ _ | apply Off.set | (refine' Off.new ?_ ?h; (case h => assumption)) | (refine' Off.trans ?_ ?f; (case f => assumption))))
local macro_rules | `(tactic| walk_at "hp") => `(tactic| with_reducible first | assumption | exact upd_same | ((first | (refine' hp_new ?nn ?hp; (case nn => assumption)) | (refine' hp_set ?ne ?hp; (case ne => walk_at "ne")) | (refine' Off.get ?f ?ne ?hp; (case f => assumption); (case ne => walk_at "ne"))); (case hp => walk_at "hp")))
local macro_rules | `(tactic| walk_at "sq") => `(tactic| with_reducible first | assumption | (refine' SqL.of ?hh; (case hh => walk_at "hp")) | ((first | (refine' sq_new ?nn ?sq; (case nn => assumption)) | (refine' sq_set ?ne ?sq; (case ne => walk_at "ne")) | (refine' Off.seq ?f ?ne ?sq; (case f => assumption); (case ne => walk_at "ne"))); (case sq => walk_at "sq")))
local macro_rules | `(tactic| walk_at "sqt") => `(tactic| with_reducible first | assumption | (refine' SqT.of ?hh; (case hh => walk_at "hp")) | ((first | (refine' sqt_new ?nn ?sq; (case nn => assumption)) | (refine' sqt_set ?ne ?sq; (case ne => walk_at "ne")) | (refine' Off.seqT ?f ?ne ?sq; (case f => assumption); (case ne => walk_at "ne"))); (case sq => walk_at "sqt")))
/- straight-line steps of a reading -/
local macro_rules | `(tactic| walk_at "at") => `(tactic| first | assumption | rfl | exact atI_nat (j := 0) rfl | exact atI_nat (j := 1) rfl | exact atI_nat (j := 2) rfl | exact at_ints (by omega) (by omega))
local macro_rules | `(tactic| walk_at "sz") => `(tactic| first | assumption | decide | exact sz4 (by omega) | exact sz4' (by omega) | (simp only [List.length_map, List.length_append, List.length_cons, List.length_nil, List.length_range, List.length_replicate]; first | exact sz4 (by omega) | exact sz4' (by omega) | omega))
local macro_rules | `(tactic| walk_at "mul") => `(tactic| first | exact .inr ⟨by decide, by decide⟩ | exact mul_fm (by decide) (by decide) | exact .inl ⟨by omega, by omega⟩ | exact .inr ⟨by omega, by omega⟩)
local macro_rules | `(tactic| walk_at "div") => `(tactic| with_reducible first | exact div97 | exact div3 | exact div2 | exact div_m (by assumption) (by assumption))
local macro_rules | `(tactic| walk_at "nz") => `(tactic| first | decide | omega)
local macro_rules | `(tactic| walk_at "rd") => `(tactic| repeat' walk_at "rd1")
local macro_rules | `(tactic| walk_at "rdA") => `(tactic| with_reducible first
  | refine rd_op ?_
  | refine rd_c ?_
  | refine rd_cb ?_
  | refine rd_cons ?_
  | refine rd_nil ?_
  | refine rd_bl ?_
  | refine rd_ii ?_
  | refine rd_M1 ?_
  | refine rd_M0 ?_
  | refine rd_isS ?_
  | refine rd_test ?_
  | refine rd_B ?_
  | refine rd_and ?_
  | refine rd_or ?_
  | refine rd_not ?_
  | refine rd_andV ?_
  | refine rd_orV ?_
  | refine rd_notV ?_
  | refine rd_ifE ?_
  | refine rd_chain ?_
  | refine rd_seq ?_
  | refine rd_if ?_
  | refine rd_asg ?_
  | refine rd_gname ?_
  | refine rd_gsub ?_
  | refine rd_drop ?_
  | refine rd_ret ?_
  | refine rd_retN ?_
  | refine rd_brk ?_
  | refine rd_cnt ?_
  | refine rd_next ?_
  | refine rd_tup ?_
  | refine rd_lst ?_
  | refine rd_BM ?_
  | refine rd_gcons ?_
  | refine rd_gnil ?_
  | refine rd_sl ?_
  | refine rd_nopart ?_
  | refine rd_part ?_
  | refine rd_un ?_
  | refine rd_call ?_
  | refine rd_callN ?_
  | refine rd_fld ?_
  | refine rd_sfld ?_
  | refine rd_meth ?_
  | refine rd_make ?_
  | refine rd_stat ?_
  | refine rv_stat ?_
  | refine rd_lenSet ?_
  | refine rd_dget ?_
  | refine rd_din ?_
  | refine rd_dnin ?_
  | refine rd_dput ?_
  | refine rd_dnewK ?_
  | refine rd_dnewT ?_
  | refine rd_listRg ?_
  | refine rd_rg1 ?_
  | refine rd_rg2 ?_
  | refine rv_i2 ?_
  | refine rd_yes ?_
  | refine rd_iList ?_
  | refine rd_iTup ?_
  | refine rd_augS ?_
  | refine rv_ipI ?_
  | refine rd_zipA ?_
  | refine rd_enumT ?_
  | refine rd_for ?_
  | refine rd_rng1 ?_
  | refine rd_revL ?_
  | refine rv_addI ?_
  | refine rv_sub ?_
  | refine rv_lt ?_
  | refine rv_le ?_
  | refine rv_gt ?_
  | refine rv_ge ?_
  | refine rv_eqI ?_
  | refine rv_neI ?_
  | refine rv_eqS ?_
  | refine rv_eqB ?_
  | refine rv_neS ?_
  | refine rv_neB ?_
  | refine rv_int ?_
  | refine rv_inS ?_
  | refine rv_isNn ?_
  | refine rv_isNr ?_
  | refine rv_isNi ?_
  | refine rv_isNb ?_
  | refine rv_isNs ?_
  | refine rv_notNn ?_
  | refine rv_notNr ?_
  | refine rv_notNi ?_
  | refine rv_ninS ?_
  | refine rv_abs ?_
  | refine rv_max2 ?_
  | refine rv_min2 ?_
  | refine rv_ord ?_
  | refine rv_neg ?_
  | refine iteT ?_
  | refine iteF ?_
  | refine iteD (fun h => ?_) (fun h => ?_)
  | refine iteND (fun h => ?_) (fun h => ?_))
local macro_rules | `(tactic| walk_at "rd1") => `(tactic| first
  | ((with_reducible refine' rd_andB ?h ?_); (case h => (intro Qe hq; walk_at "rd"; exact hq)))
  | ((with_reducible refine' rd_orB ?h ?_); (case h => (intro Qe hq; walk_at "rd"; exact hq)))
  | walk_at "rdA"
  | ((with_reducible refine' rd_var ?h ?_); (case h => rfl))
  | ((with_reducible refine' rd_wipe ?h ?_); (case h => rfl))
  | ((with_reducible refine' rd_aug ?h ?_); (case h => rfl))
  | ((with_reducible refine' rv_ixL ?h ?c ?_); (case h => walk_at "sq"); (case c => walk_at "at"))
  | ((with_reducible refine' rv_ixS ?h ?c ?_); (case h => walk_at "sz"); (case c => walk_at "at"))
  | ((with_reducible refine' rv_setL ?h ?c ?_); (case h => walk_at "hp"); (case c => rfl))
  | ((with_reducible refine' rv_mulI ?h ?_); (case h => walk_at "mul"))
  | ((with_reducible refine' rv_mod ?h ?_); (case h => walk_at "nz"))
  | ((with_reducible refine' rv_div ?h ?_); (case h => walk_at "div"))
  | ((with_reducible refine' rv_pow ?h ?_); (case h => exact ⟨by decide, by decide, by decide⟩))
  | ((with_reducible refine' rv_get ?h ?h0 ?c ?_); (case h => walk_at "sq"); (case h0 => omega); (case c => walk_at "at"))
  | ((with_reducible refine' rv_lenL ?h ?_); (case h => walk_at "sq"))
  | ((with_reducible refine' rv_lenS ?h ?_); (case h => walk_at "sz"))
  | ((with_reducible refine' rv_addS ?h ?_); (case h => walk_at "sz"))
  | ((with_reducible refine' rd_tyL ?h ?_); (case h => walk_at "sq"))
  | (with_reducible refine rd_tyS ?_)
  | ((with_reducible refine' rv_inL ?h ?hx ?hf ?_); (case h => walk_at "sq"); (case hx => rfl); (case hf => rfl))
  | ((with_reducible refine' rv_ninL ?h ?hx ?hf ?_); (case h => walk_at "sq"); (case hx => rfl); (case hf => rfl))
  | ((with_reducible refine' rv_all ?h ?_); (case h => walk_at "sq"))
  | ((with_reducible refine' rv_addL ?h1 ?h2 ?h3 (fun p hp => ?_)); (case h1 => walk_at "hp"); (case h2 => walk_at "hp"); (case h3 => walk_at "sz"))
  | (with_reducible refine iteB (fun h => ?_) (fun h => ?_))
  | (refine ⟨rfl, rfl, ?_⟩)
  | ((with_reducible refine' rv_up ?h ?_); (case h => omega))
  | ((with_reducible refine' rv_iL ?h ?_); (case h => walk_at "sq"))
  | ((with_reducible refine' rv_iT ?h ?_); (case h => walk_at "sqt"))
  | ((with_reducible refine' rv_listL ?h (fun p hp => ?_)); (case h => walk_at "sq"))
  | ((with_reducible refine' rv_listT ?h (fun p hp => ?_)); (case h => walk_at "sqt"))
  | ((with_reducible refine' rv_tupL ?h (fun p hp => ?_)); (case h => walk_at "sq"))
  | ((with_reducible refine' rv_tupT ?h ?_); (case h => walk_at "sqt"))
  | ((with_reducible refine' rv_ixT ?h ?c ?_); (case h => walk_at "sqt"); (case c => walk_at "at"))
  | ((with_reducible refine' rd_gtup ?h ?c ?_); (case h => walk_at "sqt"); (case c => rfl))
  | ((with_reducible refine' rv_lenT ?h ?_); (case h => walk_at "sqt"))
  | ((with_reducible refine' rv_isiB ?h ?_); (case h => with_reducible first | exact isi_bool_bool | exact isi_bool_int | exact isi_bool_str | exact isi_bool_list | exact isi_bool_tuple | exact isi_bool_dict))
  | ((with_reducible refine' rv_isiI ?h ?_); (case h => with_reducible first | exact isi_int_bool | exact isi_int_int | exact isi_int_str | exact isi_int_list | exact isi_int_tuple | exact isi_int_dict))
  | ((with_reducible refine' rv_isiS ?h ?_); (case h => with_reducible first | exact isi_str_bool | exact isi_str_int | exact isi_str_str | exact isi_str_list | exact isi_str_tuple | exact isi_str_dict))
  | ((with_reducible refine' rv_isiN ?h ?_); (case h => with_reducible first | exact isi_NoneType_bool | exact isi_NoneType_int | exact isi_NoneType_str | exact isi_NoneType_list | exact isi_NoneType_tuple | exact isi_NoneType_dict))
  | ((with_reducible refine' rv_isiL ?e ?h ?_); (case e => walk_at "hp"); (case h => with_reducible first | exact isi_list_bool | exact isi_list_int | exact isi_list_str | exact isi_list_list | exact isi_list_tuple | exact isi_list_dict))
  | ((with_reducible refine' rv_isiT ?e ?h ?_); (case e => walk_at "hp"); (case h => with_reducible first | exact isi_tuple_bool | exact isi_tuple_int | exact isi_tuple_str | exact isi_tuple_list | exact isi_tuple_tuple | exact isi_tuple_dict))
  | ((with_reducible refine' rv_revL ?h ?_); (case h => walk_at "sq"))
  | (with_reducible refine fun (p : Addr) (hp : _ = none) => ?_)
  | ((with_reducible refine' rv_slL ?h (fun p hp => ?_)); (case h => walk_at "sq"))
  | ((with_reducible refine' rv_slS ?h ?_); (case h => walk_at "sz"))
  | ((with_reducible refine' rv_ext ?h ?h2 ?c ?_); (case h => walk_at "hp"); (case h2 => walk_at "hp"); (case c => walk_at "sz"))
  | (refine ⟨(by simp only [List.length_cons, List.length_nil]; decide), fun p hp => ?_⟩)
  | ((with_reducible refine' rv_app ?h ?c ?_); (case h => walk_at "hp"); (case c => walk_at "sz"))
  )
local macro_rules | `(tactic| walk_at "bag") => `(tactic| first | assumption | (refine ⟨_, _, _, _, _, upd_same, (by assumption), ?hp, (by omega), (by omega)⟩; (case hp => walk_at "hp")) | exact ⟨_, _, _, _, _, (by assumption), (by assumption), (by assumption), (by assumption), (by assumption)⟩ | (refine BagAt.new ?_ (by assumption); walk_at "bag") | (refine BagAt.put ?_ (by assumption) (by assumption); walk_at "bag"))

section
variable {P : Program} {w : World} {K : PySem.W.Frag} {mg : Str → Option Value} {base : Heap}
def spMade (C : Addr) : Sp := fun vs H Q _ => ∃ (b c : Addr) (cs : List Int) (n : Nat) (l : Addr) (ls : List Addr) (tab : List (List Int)), vs = [.ref b, .ref l] ∧ n ≤ 100 ∧ BagAt b c cs H ∧ TabAt H l ls tab ∧ tab.length = n ∧ (∀ row ∈ tab, row.length = n) ∧ (∀ i, i < n → gT tab i i = 0) ∧ (∀ i j, 0 ≤ gT tab i j) ∧ l ≠ b ∧ (∀ r ∈ ls, r ≠ b) ∧
  ∀ H' p t rs, Off b H H' → BagAt b c cs H' → CostsAt C H' p n t rs tab → H p = none → H t = none → (∀ r ∈ rs, H r = none) → Q (.ref p) H'
theorem tab_range {H : Hp} {D : Addr} {gs : List Addr} {tab : List (List Int)} {n : Nat} (hn : tab.length = n) (e : H D = some (.lst (gs.map V.ref))) (p : Paired (fun r i => H r = some (.lst ((tab.getD i []).map V.int))) gs (List.range n)) : TabAt H D gs tab := by
  refine ⟨e, Paired.of_range hn.symm ?_⟩
  refine Paired.of_get (Paired.len p) fun k r i h1 h2 => ?_
  obtain ⟨i2, e2, h3⟩ := Paired.get1 p h1
  rw [h2] at e2; cases e2
  have hi : k < n := by rw [← List.length_range (n := n)]; exact (List.getElem?_eq_some_iff.mp h2).1
  rw [List.getElem?_range hi] at h2; cases h2
  exact ⟨tab[k]'(by omega), List.getElem?_eq_getElem (by omega), by rw [← getD_of (d := []) (List.getElem?_eq_getElem (show k < tab.length by omega))]; exact h3⟩
theorem gT_put {tab : List (List Int)} {x y : Nat} {c : Int} (hx : x < tab.length) (hy : y < (tab.getD x []).length) (i j : Nat) : gT (putT tab x y c) i j = if i = x ∧ j = y then c else gT tab i j := by
  unfold gT putT
  rw [List.getD_eq_getElem?_getD (l := tab.set x _), List.getElem?_set]
  by_cases h : x = i
  · subst h
    rw [if_pos rfl, if_pos hx]
    show (((tab.getD x []).set y c).getD j 0) = _
    rw [List.getD_eq_getElem?_getD, List.getElem?_set]
    by_cases h2 : y = j
    · subst h2
      rw [if_pos rfl, if_pos hy, if_pos ⟨rfl, rfl⟩]; rfl
    · rw [if_neg h2, if_neg (fun z => h2 z.2.symm), ← List.getD_eq_getElem?_getD]
  · rw [if_neg h, if_neg (fun z => h z.1.symm), ← List.getD_eq_getElem?_getD]
theorem tab_ext {n : Nat} {s t : List (List Int)} (h1 : s.length = n) (h2 : ∀ row ∈ s, row.length = n) (h3 : t.length = n) (h4 : ∀ row ∈ t, row.length = n) (h : ∀ i j, i < n → j < n → gT s i j = gT t i j) : s = t := by
  rw [tab_eta h1 h2, tab_eta h3 h4]
  unfold mkT
  refine List.map_congr_left fun a ha => List.map_congr_left fun b hb => h a b (List.mem_range.mp ha) (List.mem_range.mp hb)
theorem sq_getD {n : Nat} {tab : List (List Int)} (h1 : tab.length = n) (h2 : ∀ row ∈ tab, row.length = n) {x : Nat} (hx : x < n) : (tab.getD x []).length = n := by
  rw [getD_of (List.getElem?_eq_getElem (show x < tab.length by omega))]
  exact h2 _ (List.getElem_mem _)
theorem putT_sq {n : Nat} {tab : List (List Int)} {x y : Nat} {c : Int} (h1 : tab.length = n) (h2 : ∀ row ∈ tab, row.length = n) (hx : x < n) : (putT tab x y c).length = n ∧ ∀ row ∈ putT tab x y c, row.length = n := by
  unfold putT
  refine ⟨by rw [List.length_set]; exact h1, fun row h => ?_⟩
  rcases List.mem_or_eq_of_mem_set h with h | h
  · exact h2 row h
  · rw [h, List.length_set]; exact sq_getD h1 h2 hx
theorem ok_law_table_made (T : Txt K mg) : FnOk P w K mg base CX0 5 T.f_law_table_made T.fd_law_table_made ["bag", "rows"] (spMade T.C_Costs) := by
  refine T.F_law_table_made.ok sc_law_table_made (fun vs H Q E h => ?_) (fun cdv A outer s H vs Q E hr h => ?_)
  · obtain ⟨b, c, cs, n, l, ls, tab, rfl, _⟩ := h
    rfl
  · obtain ⟨b, c, cs, n, l, ls, tab, rfl, hn, B, TA, lt, sq, dg, ng, lb, lsb, q⟩ := h
    have el := TA.tb
    have ll := TA.len
    refine ⟨_, (pss_cons (ps_set (i := 2) sc_law_table_made.nd rfl (by first | exact Or.inl rfl | exact Or.inr rfl) (pe_callB (dLen K) (by rfl) T.n_len (by decide +kernel) (pa_cons (pv 1) pa_nil)))
   (pss_cons (ps_set (i := 3) sc_law_table_made.nd rfl (by first | exact Or.inl rfl | exact Or.inr rfl) (pe_call (ok_law_draw T) (hr.mono (by omega)) (by rfl) T.g_law_draw T.F_law_draw.kp T.b_law_draw .nil pass0 (pa_cons (pv 0) (pa_cons pe_int pa_nil))))
   (pss_cons (ps_setLc (i := 4) (own := [("row", 5)]) (g := gName 5) (tt := tYes) rfl sc_law_table_made.nd rfl rfl (sw_true rfl rfl rfl (by decide +kernel)) (dpi_list K (pv 1)) (blkOk_by (own := [("row", 5)]) (N := ["bag", "rows", "size", "way_of", "given", "row", "a", "costs", "b", "one"]) (sc := defScope s_law_table_made) (by decide +kernel)) (fun _ _ _ _ _ => (pg_name (i := 5) sc_law_table_made.nd rfl (by first | exact Or.inl rfl | exact Or.inr rfl))) (fun _ _ _ _ _ => pts_nil) (fun _ _ _ _ _ => (pe_callTy (dList K) (by rfl) T.n_list (by decide +kernel) (pa_cons (pv 5) pa_nil))))
   (C8.pss_cut (ps_if (pt_cmpR dEq (pv 3) pe_int (nomark _))
    (pss_one (ps_for PassesOwn.never rfl (pi_range1 rfl T.n_range (pa_cons (pv 2) pa_nil)) (pg_name (i := 6) sc_law_table_made.nd rfl (by first | exact Or.inl rfl | exact Or.inr rfl))
     (pss_cons (ps_set (i := 5) sc_law_table_made.nd rfl (by first | exact Or.inl rfl | exact Or.inr rfl) (pe_ix (dIx K) (pv 4) (pv 6) (fun _ _ => rfl)))
     (pss_one (ps_asg (pe_call (ok_law_draw T) (hr.mono (by omega)) (by rfl) T.g_law_draw T.F_law_draw.kp T.b_law_draw .nil pass0 (pa_cons (pv 0) (pa_cons pe_int pa_nil))) (pg_sub (pv 5) (pv 6) set_list))))))
    pss_nil)
   (pss_cons (ps_set (i := 7) sc_law_table_made.nd rfl (by first | exact Or.inl rfl | exact Or.inr rfl) (pe_make T.mk_Costs (ok_Costs___init__ T) (hr.mono (by omega)) (by rfl) T.mg_Costs T.b_Costs___init__ .nil pass0 (pa_cons (pv 2) pa_nil)))
   (C8.pss_cut (ps_if (pt_cmpR dEq (pv 3) pe_int (nomark _))
    (pss_one (ps_for PassesOwn.never rfl (pi_range1 rfl T.n_range (pa_cons (pv 2) pa_nil)) (pg_name (i := 6) sc_law_table_made.nd rfl (by first | exact Or.inl rfl | exact Or.inr rfl))
     (pss_one (ps_for PassesOwn.never rfl (pi_range1 rfl T.n_range (pa_cons (pv 2) pa_nil)) (pg_name (i := 8) sc_law_table_made.nd rfl (by first | exact Or.inl rfl | exact Or.inr rfl))
      (pss_one (ps_if (pt_cmpR dGt (pe_ix (dIx K) (pe_ix (dIx K) (pv 4) (pv 6) (fun _ _ => rfl)) (pv 8) (fun _ _ => rfl)) pe_int (nomark _))
       (pss_one (ps_asg (pe_ix (dIx K) (pe_ix (dIx K) (pv 4) (pv 6) (fun _ _ => rfl)) (pv 8) (fun _ _ => rfl)) (pg_sub (pv 7) (pe_tup (pa_cons (pv 6) (pa_cons (pv 8) pa_nil))) (set_own (ok_Costs___setitem__ T) (hr.mono (by omega)) T.b_Costs___setitem__ pass0 T.ow_Costs___setitem__))))
       pss_nil))))))
    (pss_one (ps_if (pt_cmpR dEq (pv 3) pe_int (nomark _))
     (pss_cons (ps_aug (i := 7) sc_law_table_made.nd rfl (by first | exact Or.inl rfl | exact Or.inr rfl) (pe_stat (pe_glob (v := .ref T.C_Costs) (by rfl) T.mg_Costs rfl) T.st_Costs_of (ok_Costs_of T) (hr.mono (by omega)) T.b_Costs_of pass0 (pa_cons (pe_lc (own := [("row", 5)]) (g := gName 5) (tt := tYes) rfl sc_law_table_made.nd  (dpi_list K (pv 4)) (blkOk_by (own := [("row", 5)]) (N := ["bag", "rows", "size", "way_of", "given", "row", "a", "costs", "b", "one"]) (sc := defScope s_law_table_made) (by decide +kernel)) (fun _ _ _ _ _ => (pg_name (i := 5) sc_law_table_made.nd rfl (by first | exact Or.inl rfl | exact Or.inr rfl))) (fun _ _ _ _ _ => pts_nil) (fun _ _ _ _ _ => (pe_lc (own := [("one", 9)]) (g := gName 9) (tt := tYes) rfl sc_law_table_made.nd  (dpi_list K (pv 5)) (blkOk_by (own := [("one", 9)]) (N := ["bag", "rows", "size", "way_of", "given", "row", "a", "costs", "b", "one"]) (by rfl)) (fun _ _ _ _ _ => (pg_name (i := 9) sc_law_table_made.nd rfl (by first | exact Or.inl rfl | exact Or.inr rfl))) (fun _ _ _ _ _ => pts_nil) (fun _ _ _ _ _ => (pe_op dDiv (pv 9) pe_int))))) pa_nil)) (ip_own (ok_Costs___iadd__ T) (hr.mono (by omega)) T.b_Costs___iadd__ pass0 T.ow_Costs___iadd__))
     (pss_one (ps_aug (i := 7) sc_law_table_made.nd rfl (by first | exact Or.inl rfl | exact Or.inr rfl) (pe_stat (pe_glob (v := .ref T.C_Costs) (by rfl) T.mg_Costs rfl) T.st_Costs_of (ok_Costs_of T) (hr.mono (by omega)) T.b_Costs_of pass0 (pa_cons (pe_lc (own := [("row", 5)]) (g := gName 5) (tt := tYes) rfl sc_law_table_made.nd  (dpi_list K (pv 4)) (blkOk_by (own := [("row", 5)]) (N := ["bag", "rows", "size", "way_of", "given", "row", "a", "costs", "b", "one"]) (sc := defScope s_law_table_made) (by decide +kernel)) (fun _ _ _ _ _ => (pg_name (i := 5) sc_law_table_made.nd rfl (by first | exact Or.inl rfl | exact Or.inr rfl))) (fun _ _ _ _ _ => pts_nil) (fun _ _ _ _ _ => (pe_lc (own := [("one", 9)]) (g := gName 9) (tt := tYes) rfl sc_law_table_made.nd  (dpi_list K (pv 5)) (blkOk_by (own := [("one", 9)]) (N := ["bag", "rows", "size", "way_of", "given", "row", "a", "costs", "b", "one"]) (by rfl)) (fun _ _ _ _ _ => (pg_name (i := 9) sc_law_table_made.nd rfl (by first | exact Or.inl rfl | exact Or.inr rfl))) (fun _ _ _ _ _ => pts_nil) (fun _ _ _ _ _ => (pe_op dSub (pv 9) (pe_op dDiv (pv 9) pe_int)))))) pa_nil)) (ip_own (ok_Costs___iadd__ T) (hr.mono (by omega)) T.b_Costs___iadd__ pass0 T.ow_Costs___iadd__))))
     (pss_one (ps_set (i := 7) sc_law_table_made.nd rfl (by first | exact Or.inl rfl | exact Or.inr rfl) (pe_stat (pe_glob (v := .ref T.C_Costs) (by rfl) T.mg_Costs rfl) T.st_Costs_of (ok_Costs_of T) (hr.mono (by omega)) T.b_Costs_of pass0 (pa_cons (pe_callTy (dTuple K) (by rfl) T.n_tuple (by decide +kernel) (pa_cons (pe_lc (own := [("row", 5)]) (g := gName 5) (tt := tYes) rfl sc_law_table_made.nd  (dpi_list K (pv 4)) (blkOk_by (own := [("row", 5)]) (N := ["bag", "rows", "size", "way_of", "given", "row", "a", "costs", "b", "one"]) (sc := defScope s_law_table_made) (by decide +kernel)) (fun _ _ _ _ _ => (pg_name (i := 5) sc_law_table_made.nd rfl (by first | exact Or.inl rfl | exact Or.inr rfl))) (fun _ _ _ _ _ => pts_nil) (fun _ _ _ _ _ => (pe_callTy (dTuple K) (by rfl) T.n_tuple (by decide +kernel) (pa_cons (pv 5) pa_nil)))) pa_nil)) pa_nil)))))))
   (pss_one (ps_ret (pv 7))))))))), ?_⟩
    walk_at "rd"
    rw [show (ls.map V.ref).length = n by rw [List.length_map]; omega]
    refine ⟨b, c, cs, 4, rfl, by decide, by decide, B, fun H1 wy f1 B1 w0 w1 => ?_⟩
    have TA1 : TabAt H1 l ls tab := TA.offs (S := [b]) (OffS.of_off f1 (by simp)) (by simpa using lb) (fun x hx => by simpa using lsb x hx)
    have el1 := TA1.tb
    walk_at "rd"
    refine rd_lc ?_
    walk_at "rd"
    refine lc_fresh (walk_list (K := K) (a := l) (xs := ls.map V.ref)) (fun i => tab.getD i []) (by rw [List.length_map]; omega) (fun H' s => SqL.of (s _ _ el1)) same_at ?_ ?_
    · rintro i x H' H2 Nx E hi s s2 ⟨rfl, hx⟩ hN
      rw [List.length_map] at hi
      obtain ⟨r, e1, e2, _⟩ := TA1.get (List.getElem?_eq_getElem (show i < tab.length by omega))
      rw [List.getElem?_map, e1] at hx
      cases hx
      have e3 := s _ _ e2
      rw [getD_of (List.getElem?_eq_getElem (show i < tab.length by omega))] at hN
      walk_at "rd"
      rename_i z hz
      exact hN z _ (same_upd hz) hz upd_same
    · intro D gs H2 hD s2 eD pr nd fr
      rw [List.length_map, ll, lt] at pr
      have TD : TabAt H2 D gs tab := tab_range lt eD pr
      have B2 := B1.same s2
      walk_at "rd"
      refine ⟨fun σ H' => ∃ (x5 x6 : Option V) (tab' : List (List Int)), σ = [some (.ref b), some (.ref l), some (.int n), some (.int wy), some (.ref D), x5, x6, none, none, none] ∧ Off b H1 H' ∧ BagAt b c cs H' ∧ TabAt H' D gs tab' ∧ tab'.length = n ∧ (∀ row ∈ tab', row.length = n) ∧ (∀ i j, i ≠ j → gT tab' i j = gT tab i j) ∧ (wy ≠ 0 → tab' = tab), ?_, ?_⟩
      · walk_at "rd"
        · refine ⟨_, rfl, by omega, by omega, ?_⟩
          refine for_range (lo := 0) (n := ((n : Int)).toNat) (fun i σ H' => ∃ (x5 x6 : Option V) (tab' : List (List Int)), σ = [some (.ref b), some (.ref l), some (.int n), some (.int wy), some (.ref D), x5, x6, none, none, none] ∧ Off b H1 H' ∧ BagAt b c cs H' ∧ TabAt H' D gs tab' ∧ tab'.length = n ∧ (∀ row ∈ tab', row.length = n) ∧ (∀ i j, i ≠ j → gT tab' i j = gT tab i j))
            ⟨_, _, tab, rfl, Off.of_same s2, B2, TD, lt, sq, fun _ _ _ => rfl⟩ ?_ ?_
          · rintro i σ H3 hi ⟨x5, x6, tab', rfl, f3, B3, TD3, lt3, sq3, od3⟩
            rw [show (0 : Int) + (i : Int) = i by omega]
            have hi' : i < tab'.length := by omega
            obtain ⟨r, er, ehr, ar⟩ := TD3.get (List.getElem?_eq_getElem hi')
            have eD3 := TD3.tb
            have rm := List.mem_of_getElem? er
            have hrow := sq3 _ (List.getElem_mem hi')
            walk_at "rd"
            refine ⟨b, c, cs, 1000000001, rfl, by decide, by decide, B3, fun H4 v f4 B4 v0 v1 => ?_⟩
            have rb : r ≠ b := B1.ne (fr r rm).1
            have rc : r ≠ c := B1.ne2 (fr r rm).1
            have Db : D ≠ b := B1.ne hD
            have ehr4 := f4.get rb ehr
            have TD4 : TabAt H4 D gs tab' := TD3.offs (S := [b]) (OffS.of_off f4 (by simp)) (by simpa using Db) (fun x hx => by simpa using B1.ne (fr x hx).1)
            walk_at "rd"
            refine rv_setL ehr4 (by rw [List.length_map]; exact ixN_of (by omega)) ?_
            rw [setm_int]
            walk_at "rd"
            have ns := putT_sq (x := i) (y := i) (c := v) lt3 sq3 (by omega)
            have e0 : tab'.getD i [] = tab'[i] := getD_of (List.getElem?_eq_getElem hi')
            refine ⟨_, _, putT tab' i i v, rfl, (f3.trans f4).mut (fr r rm).1, B4.put rb rc, ?_, ns.1, ns.2, ?_⟩
            · unfold putT
              rw [e0]
              exact TD4.put nd (fun h => (fr D h).2 rfl) er _
            · intro k j hkj
              rw [gT_put hi' (by rw [e0]; omega), if_neg (fun z => hkj (z.1.trans z.2.symm))]
              exact od3 k j hkj
          · rintro σ H3 ⟨x5, x6, tab', rfl, f3, B3, TD3, lt3, sq3, od3⟩
            exact ⟨_, _, tab', rfl, f3, B3, TD3, lt3, sq3, od3, fun h => absurd ‹wy = 0› h⟩
        · exact ⟨_, _, tab, rfl, Off.of_same s2, B2, TD, lt, sq, fun _ _ _ => rfl, fun _ => rfl⟩
      · rintro σ H3 ⟨x5, x6, tab', rfl, f3, B3, TD3, lt3, sq3, od3, wz3⟩
        have eD3 := TD3.tb
        have lg := TD3.len
        walk_at "rd"
        intro x dx hx hdx ndx
        have sx : Same H3 (upd (upd H3 dx (.own x)) x (.ins T.C_Costs dx [])) := fun b o e => by
          rw [upd_ne (ne_of_none e hx), upd_ne (ne_of_none e hdx)]
          exact e
        refine ⟨x, dx, n, rfl, by omega, upd_same, fun H4 t rs kp CA ht0 hr0 => ⟨rfl, ?_⟩⟩
        have s4 : Same H3 H4 := fun b o e => kp b o (sx b o e) (ne_of_none e hx)
        have B4 := B3.same s4
        have TD4 := TD3.same s4
        have fro : ∀ y, H3 y = none → H1 y = none := fun y hy => f3.fresh (B3.ne hy) hy
        have fro' : ∀ y, (upd (upd H3 dx (.own x)) x (.ins T.C_Costs dx [])) y = none → H1 y = none := fun y hy => fro y (sx.free hy)
        have eD4 := TD4.tb
        have zz : zeroD tab' n = tab := tab_ext (mkT_len ..) (mkT_sq _ _) lt sq fun i j hi hj => by
          unfold zeroD
          rw [gT_mk _ hi hj]
          by_cases h : i = j
          · subst h
            rw [if_neg (fun z => z rfl), dg i hi]
          · rw [if_pos h, od3 i j h]
        walk_at "rd"
        refine ⟨fun σ H' => ∃ (x5 x6 x8 x9 : Option V) (p t : Addr) (rs : List Addr), σ = [some (.ref b), some (.ref l), some (.int n), some (.int wy), some (.ref D), x5, x6, some (.ref p), x8, x9] ∧ Off b H1 H' ∧ BagAt b c cs H' ∧ CostsAt T.C_Costs H' p n t rs tab ∧ H1 p = none ∧ H1 t = none ∧ (∀ r ∈ rs, H1 r = none), ?_, ?_⟩
        · walk_at "rd"
          · have wz := wz3 (by omega)
            subst wz
            refine ⟨_, rfl, by omega, by omega, ?_⟩
            have own : ∀ (H' : Hp) (Hx : Hp) (r' : Addr), r' ∈ rs → OffS [r'] H' Hx → Off b H1 H' → BagAt b c cs H' → TabAt H' D gs tab' → Off b H1 Hx ∧ BagAt b c cs Hx ∧ TabAt Hx D gs tab' := by
              intro H' Hx r' hr' f o B' TD'
              have rn := hr0 r' hr'
              have e0 : ∀ y, H3 y ≠ none → y ≠ r' := fun y hy e => hy (sx.free (e ▸ rn))
              refine ⟨f.to o (fun a ha => .inr (by rw [List.mem_singleton.mp ha]; exact fro' r' rn)), B'.offs f ?_ ?_, TD'.offs f ?_ ?_⟩
              · simpa using e0 b (by obtain ⟨xs, e⟩ := B3.lst; rw [e]; exact fun z => nomatch z)
              · obtain ⟨_, _, _, _, _, _, _, e, _⟩ := B3
                simpa using e0 c (by rw [e]; exact fun z => nomatch z)
              · simpa using e0 D (by rw [eD3]; exact fun z => nomatch z)
              · intro g hg
                obtain ⟨k, hk, e2⟩ := List.mem_iff_getElem.mp hg
                obtain ⟨row, _, h3⟩ := Paired.get1 TD3.rw (List.getElem?_eq_getElem hk)
                rw [e2] at h3
                simpa using e0 g (by rw [h3]; exact fun z => nomatch z)
            refine for_range (lo := 0) (n := ((n : Int)).toNat) (fun i σ H' => ∃ (x5 x6 x8 x9 : Option V) (cur : List (List Int)), σ = [some (.ref b), some (.ref l), some (.int n), some (.int wy), some (.ref D), x5, x6, some (.ref x), x8, x9] ∧ Off b H1 H' ∧ BagAt b c cs H' ∧ CostsAt T.C_Costs H' x n t rs cur ∧ TabAt H' D gs tab' ∧ (∀ k j, k < n → j < n → gT cur k j = if k < i then gT tab' k j else 0))
              ⟨_, _, _, _, mkT n fun _ _ => 0, rfl, f3.trans (Off.of_same s4), B4, CA, TD4, fun k j hk hj => by rw [gT_mk _ hk hj, if_neg (by omega)]⟩ ?_ ?_
            · rintro i σ H5 hi ⟨x5, x6, x8, x9, cur, rfl, f5, B5, CA5, TD5, hc5⟩
              rw [show (0 : Int) + (i : Int) = i by omega]
              walk_at "rd"
              refine ⟨_, rfl, by omega, by omega, ?_⟩
              refine for_range (lo := 0) (n := ((n : Int)).toNat) (fun i2 σ H' => ∃ (x5 x8 x9 : Option V) (cur : List (List Int)), σ = [some (.ref b), some (.ref l), some (.int n), some (.int wy), some (.ref D), x5, some (.int (i : Int)), some (.ref x), x8, x9] ∧ Off b H1 H' ∧ BagAt b c cs H' ∧ CostsAt T.C_Costs H' x n t rs cur ∧ TabAt H' D gs tab' ∧ (∀ k j, k < n → j < n → gT cur k j = if k < i ∨ (k = i ∧ j < i2) then gT tab' k j else 0))
                ⟨_, _, _, cur, rfl, f5, B5, CA5, TD5, fun k j hk hj => by
                  rw [hc5 k j hk hj]
                  by_cases h : k < i
                  · rw [if_pos h, if_pos (.inl h)]
                  · rw [if_neg h, if_neg (by omega)]⟩ ?_ ?_
              · rintro i2 σ H6 hi2 ⟨x5, x8, x9, cur, rfl, f6, B6, CA6, TD6, hc6⟩
                rw [show (0 : Int) + (i2 : Int) = i2 by omega]
                have gi := List.getElem?_eq_getElem (show i < tab'.length by omega)
                obtain ⟨r, er, ehr, ar⟩ := TD6.get gi
                have eD6 := TD6.tb
                have hrow := sq3 _ (List.mem_of_getElem? gi)
                have av : atI ((tab'[i]'(by omega)).map V.int) (i2 : Int) = some (.int (gT tab' i i2)) := by
                  rw [gT_row gi]
                  refine atI_nat ?_
                  rw [List.getElem?_map, List.getElem?_eq_getElem (by omega), getD_of (List.getElem?_eq_getElem (by omega))]; rfl
                obtain ⟨dx6, ob6⟩ := CA6.ob
                walk_at "rd"
                · rename_i hpos k hk
                  have hne : i ≠ i2 := fun e => by
                    subst e
                    rw [dg i (by omega)] at hpos
                    omega
                  refine rv_ownSet (hp_new hk ob6) ⟨x, k, n, i, i2, gT tab' i i2, t, rs, cur, rfl, upd_same, CA6.same (same_upd hk), by omega, by omega, hne, fun H7 r' hr' f7 CA7 => ?_⟩
                  obtain ⟨o7, B7, TD7⟩ := own _ H7 r' hr' f7 (f6.new hk) (B6.new hk) (TD6.same (same_upd hk))
                  refine ⟨_, _, _, _, rfl, o7, B7, CA7, TD7, fun k2 j hk2 hj => ?_⟩
                  rw [gT_put (by rw [CA6.sz]; omega) (by rw [sq_getD CA6.sz CA6.sq (by omega)]; omega)]
                  by_cases h : k2 = i ∧ j = i2
                  · rw [if_pos h, h.1, h.2, if_pos (.inr ⟨rfl, by omega⟩)]
                  · rw [if_neg h, hc6 k2 j hk2 hj]
                    by_cases h2 : k2 < i ∨ (k2 = i ∧ j < i2)
                    · rw [if_pos h2, if_pos (by omega)]
                    · rw [if_neg h2, if_neg (by omega)]
                · rename_i hpos
                  have hz : gT tab' i i2 = 0 := by
                    have := ng i i2
                    omega
                  refine ⟨_, _, _, cur, rfl, f6, B6, CA6, TD6, fun k2 j hk2 hj => ?_⟩
                  rw [hc6 k2 j hk2 hj]
                  by_cases h : k2 = i ∧ j = i2
                  · rw [if_neg (by omega), if_pos (by omega), h.1, h.2, hz]
                  · by_cases h2 : k2 < i ∨ (k2 = i ∧ j < i2)
                    · rw [if_pos h2, if_pos (by omega)]
                    · rw [if_neg h2, if_neg (by omega)]
              · rintro σ H6 ⟨x5, x8, x9, cur, rfl, f6, B6, CA6, TD6, hc6⟩
                refine ⟨_, _, _, _, cur, rfl, f6, B6, CA6, TD6, fun k j hk hj => ?_⟩
                rw [hc6 k j hk hj]
                by_cases h : k < i + 1
                · rw [if_pos h, if_pos (by omega)]
                · rw [if_neg h, if_neg (by omega)]
            · rintro σ H5 ⟨x5, x6, x8, x9, cur, rfl, f5, B5, CA5, TD5, hc5⟩
              have ec : cur = tab' := tab_ext CA5.sz CA5.sq lt sq fun i j hi hj => by rw [hc5 i j hi hj, if_pos (by omega)]
              subst ec
              exact ⟨_, _, _, _, x, t, rs, rfl, f5, B5, CA5, fro x hx, fro' t ht0, fun r hr => fro' r (hr0 r hr)⟩
          · refine rd_lc ?_
            walk_at "rd"
            refine lc_fresh (walk_list (K := K) (a := D) (xs := gs.map V.ref)) (fun i => (tab'.map fun row => row.map (fun x => x / 2)).getD i []) (by rw [List.length_map]; omega) (fun H' s => SqL.of (s _ _ eD4)) same_at ?_ ?_
            · rintro i x' H' H2 Nx E hi s s2 ⟨rfl, hx'⟩ hN
              rw [List.length_map] at hi
              have gi := List.getElem?_eq_getElem (show i < tab'.length by omega)
              obtain ⟨r, e1, e2, _⟩ := TD4.get gi
              rw [List.getElem?_map, e1] at hx'
              cases hx'
              have e3 := s _ _ e2
              rw [map_at, getD_of gi] at hN
              generalize tab'[i]'(by omega) = row at *
              have hrow := sq3 _ (List.mem_of_getElem? gi)
              walk_at "rd"
              refine rd_lc ?_
              walk_at "rd"
              refine lc_pureF (walk_list (K := K) (a := r) (xs := row.map V.int)) (fun _ => true) (fun j => .int ((fun x => x / 2) (row.getD j 0))) (by rw [List.length_map]; omega) (fun H' s => SqL.of (s _ _ e3)) same_at ?_ ?_
              · rintro j y H' H5 Nx' E' hj s' s5 ⟨rfl, hy⟩ hN' _
                rw [List.length_map] at hj
                rw [List.getElem?_map, List.getElem?_eq_getElem hj] at hy
                cases hy
                rw [getD_of (List.getElem?_eq_getElem hj)] at hN'
                walk_at "rd"
                exact hN' rfl _ fun _ _ e => e
              · intro D3 H5 hD3 s5 e5
                refine hN D3 H5 s5 hD3 ?_
                rw [e5, List.length_map]
                have := range_filter_map row 0 (fun _ => true) (fun x => V.int ((fun x => x / 2) x))
                rw [ftrue, ftrue] at this
                rw [ftrue, this, List.map_map]
                rfl
            · intro D2 rs2 H5 hD2 s5 eD2 pr2 nd2 fr2
              rw [List.length_map, lg, lt3] at pr2
              have TD2 : TabAt H5 D2 rs2 (tab'.map fun row => row.map fun x => x / 2) := tab_range (by rw [List.length_map]; exact lt3) eD2 pr2
              walk_at "rd"
              refine ⟨.ref D2, n, _, rfl, RowsLike.of_tab TD2, by rw [List.length_map]; exact lt3, sq_map _ sq3, by omega, fun H6 p2 t2 rs2' s6 CA6 hp2 ht2 hr2 => ?_⟩
              have CA6' := CA.same (s5.trans s6)
              obtain ⟨dx6, ob6⟩ := CA6'.ob
              refine rv_own ob6 ⟨n, x, p2, t, t2, rs, rs2', _, _, rfl, CA6', CA6, by omega, fun H7 t7 rs7 f7 CA7 ht7 hr7 => ?_⟩
              have s36 : Same H3 H6 := (s4.trans s5).trans s6
              have e7 : ∀ y o, H3 y = some o → H7 y = some o := fun y o e => f7 y o (by
                simp only [List.mem_singleton]
                exact ne_of_none e hx) (s36 _ _ e)
              have s37 : Same H3 H7 := e7
              have B7 := B3.same s37
              have TD8 := TD3.same s37
              have eD8 := TD8.tb
              have f7' : ∀ y, H6 y = none → H3 y = none := fun y hy => s36.free hy
              walk_at "rd"
              refine rd_lc ?_
              walk_at "rd"
              refine lc_fresh (walk_list (K := K) (a := D) (xs := gs.map V.ref)) (fun i => (tab'.map fun row => row.map (fun x => x - x / 2)).getD i []) (by rw [List.length_map]; omega) (fun H' s => SqL.of (s _ _ eD8)) same_at ?_ ?_
              · rintro i x' H' H2 Nx E hi s s2 ⟨rfl, hx'⟩ hN
                rw [List.length_map] at hi
                have gi := List.getElem?_eq_getElem (show i < tab'.length by omega)
                obtain ⟨r, e1, e2, _⟩ := TD8.get gi
                rw [List.getElem?_map, e1] at hx'
                cases hx'
                have e3 := s _ _ e2
                rw [map_at, getD_of gi] at hN
                generalize tab'[i]'(by omega) = row at *
                have hrow := sq3 _ (List.mem_of_getElem? gi)
                walk_at "rd"
                refine rd_lc ?_
                walk_at "rd"
                refine lc_pureF (walk_list (K := K) (a := r) (xs := row.map V.int)) (fun _ => true) (fun j => .int ((fun x => x - x / 2) (row.getD j 0))) (by rw [List.length_map]; omega) (fun H' s => SqL.of (s _ _ e3)) same_at ?_ ?_
                · rintro j y H' H5 Nx' E' hj s' s5 ⟨rfl, hy⟩ hN' _
                  rw [List.length_map] at hj
                  rw [List.getElem?_map, List.getElem?_eq_getElem hj] at hy
                  cases hy
                  rw [getD_of (List.getElem?_eq_getElem hj)] at hN'
                  walk_at "rd"
                  exact hN' rfl _ fun _ _ e => e
                · intro D3 H5 hD3 s5 e5
                  refine hN D3 H5 s5 hD3 ?_
                  rw [e5, List.length_map]
                  have := range_filter_map row 0 (fun _ => true) (fun x => V.int ((fun x => x - x / 2) x))
                  rw [ftrue, ftrue] at this
                  rw [ftrue, this, List.map_map]
                  rfl
              · intro D3 rs3 H8 hD3 s8 eD3' pr3 nd3 fr3
                rw [List.length_map, lg, lt3] at pr3
                have TD3' : TabAt H8 D3 rs3 (tab'.map fun row => row.map (fun x => x - x / 2)) := tab_range (by rw [List.length_map]; exact lt3) eD3' pr3
                walk_at "rd"
                refine ⟨.ref D3, n, _, rfl, RowsLike.of_tab TD3', by rw [List.length_map]; exact lt3, sq_map _ sq3, by omega, fun H9 p3 t3 rs3' s9 CA9 hp3 ht3 hr3 => ?_⟩
                have CA9' := CA7.same (s8.trans s9)
                obtain ⟨dx9, ob9⟩ := CA9'.ob
                refine rv_own ob9 ⟨n, x, p3, t7, t3, rs7, rs3', _, _, rfl, CA9', CA9, by omega, fun H10 t10 rs10 f10 CA10 ht10 hr10 => ?_⟩
                have s39 : Same H3 H9 := (s37.trans s8).trans s9
                have s310 : Same H3 H10 := fun y o e => f10 y o (by
                  simp only [List.mem_singleton]
                  exact ne_of_none e hx) (s39 _ _ e)
                have et : addT n (addT n (mkT n fun _ _ => 0) (zeroD (tab'.map fun row => row.map fun x => x / 2) n)) (zeroD (tab'.map fun row => row.map (fun x => x - x / 2)) n) = tab := by
                  rw [← zz]
                  refine tab_ext (n := n) (addT_len ..) (mkT_sq _ _) (mkT_len ..) (mkT_sq _ _) fun i j hi hj => ?_
                  unfold addT zeroD
                  rw [gT_mk _ hi hj, gT_mk _ hi hj, gT_mk _ hi hj, gT_mk _ hi hj, gT_mk _ hi hj, gT_mk _ hi hj]
                  by_cases h : i = j
                  · rw [if_neg (fun z => z h), if_neg (fun z => z h), if_neg (fun z => z h)]; rfl
                  · rw [if_pos h, if_pos h, if_pos h, gT_map _ rfl, gT_map _ rfl]
                    omega
                rw [et] at CA10
                walk_at "rd"
                exact ⟨_, _, _, _, x, t10, rs10, rfl, f3.trans (Off.of_same s310), B3.same s310, CA10, fro x hx, fro t10 (s39.free ht10), fun r hr => fro r (s39.free (hr10 r hr))⟩
          · refine rd_lc ?_
            walk_at "rd"
            refine lc_pureT (walk_list (K := K) (a := D) (xs := gs.map V.ref)) tab' (fun H y row => ∃ u, y = .ref u ∧ H u = some (.tup (row.map V.int))) (by rw [List.length_map]; exact lg) (by rw [List.length_map]; omega) (fun H' s => SqL.of (s _ _ eD4)) same_at (fun H1 H2 y r ts ⟨u, e, h⟩ => ⟨u, e, ts _ _ h⟩) ?_ ?_
            · rintro i row x' H' H2 Nx E er s s2 ⟨rfl, hx'⟩ hN
              obtain ⟨r, e1, e2, _⟩ := TD4.get er
              rw [List.getElem?_map, e1] at hx'
              cases hx'
              have e3 := s _ _ e2
              walk_at "rd"
              rename_i z hz
              exact hN _ _ (same_upd hz) ⟨z, rfl, upd_same⟩
            · intro D2 ys H5 hD2 s5 e5 pr5
              walk_at "rd"
              rename_i u hu
              have s35 := (s4.trans s5).trans (same_upd hu (o := .tup ys))
              have RL : RowsLike (upd H5 u (.tup ys)) (.ref u) tab' := ⟨u, ys, rfl, .inr upd_same, Paired.mapP pr5 fun y row ⟨v, e1, e2⟩ => ⟨v, e1, .inr (hp_new hu e2)⟩⟩
              refine ⟨.ref u, n, tab', rfl, RL, lt3, sq3, by omega, fun H6 p6 t6 rs6 s6 CA6 hp6 ht6 hr6 => ?_⟩
              rw [zz] at CA6
              have s36 := s35.trans s6
              walk_at "rd"
              exact ⟨_, _, _, _, p6, t6, rs6, rfl, f3.trans (Off.of_same s36), B3.same s36, CA6, fro p6 (s35.free hp6), fro t6 (s35.free ht6), fun r hr => fro r (s35.free (hr6 r hr))⟩
        · rintro σ H5 ⟨x5, x6, x8, x9, p, t, rs, rfl, f5, B5, CA5, p0, t0, r0⟩
          walk_at "rd"
          exact q H5 p t rs (f1.trans f5) B5 CA5 (f1.fresh (B1.ne p0) p0) (f1.fresh (B1.ne t0) t0) fun r hr => f1.fresh (B1.ne (r0 r hr)) (r0 r hr)
end
end K29
namespace K29
open PySem PySem.Spec PyProof.Rows L2 D0
local macro_rules | `(tactic| walk_at "neB") => `(tactic| with_reducible first | assumption | (apply Ne.symm; assumption) | (refine' BagAt.ne ?x ?h; (case h => assumption); (case x => assumption)))
local macro_rules | `(tactic| walk_at "hq") => `(tactic| with_reducible first | assumption | exact upd_same | ((first | (refine' hp_new ?nn ?hq; (case nn => assumption)) | (refine' Off.get ?f ?ne ?hq; (case f => assumption); (case ne => walk_at "neB"))); (case hq => walk_at "hq")))
local macro_rules | `(tactic| walk_at "neA") => `(tactic| with_reducible first | (refine' BagAt.ne ?x ?h; (case h => assumption); (case x => assumption)) | (refine' ne_of_none ?x ?h; (case h => assumption); (case x => walk_at "hq")))
local macro_rules | `(tactic| walk_at "ne") => `(tactic| with_reducible first | assumption | (apply Ne.symm; assumption) | walk_at "neA" | (apply Ne.symm; walk_at "neA"))
local macro_rules | `(tactic| walk_at "off") => `(tactic| with_reducible repeat' (first | assumption | exact Off.refl _ _ | apply Off.set | (refine' Off.new ?_ ?h; (case h => assumption)) | (refine' Off.trans ?_ ?f; (case f => assumption))))
local macro_rules | `(tactic| walk_at "hp") => `(tactic| with_reducible first | assumption | exact upd_same | ((first | (refine' hp_new ?nn ?hp; (case nn => assumption)) | (refine' hp_set ?ne ?hp; (case ne => walk_at "ne")) | (refine' Off.get ?f ?ne ?hp; (case f => assumption); (case ne => walk_at "ne"))); (case hp => walk_at "hp")))
local macro_rules | `(tactic| walk_at "sq") => `(tactic| with_reducible first | assumption | (refine' SqL.of ?hh; (case hh => walk_at "hp")) | ((first | (refine' sq_new ?nn ?sq; (case nn => assumption)) | (refine' sq_set ?ne ?sq; (case ne => walk_at "ne")) | (refine' Off.seq ?f ?ne ?sq; (case f => assumption); (case ne => walk_at "ne"))); (case sq => walk_at "sq")))
local macro_rules | `(tactic| walk_at "sqt") => `(tactic| with_reducible first | assumption | (refine' SqT.of ?hh; (case hh => walk_at "hp")) | ((first | (refine' sqt_new ?nn ?sq; (case nn => assumption)) | (refine' sqt_set ?ne ?sq; (case ne => walk_at "ne")) | (refine' Off.seqT ?f ?ne ?sq; (case f => assumption); (case ne => walk_at "ne"))); (case sq => walk_at "sqt")))
/- straight-line steps of a reading -/
local macro_rules | `(tactic| walk_at "at") => `(tactic| first | assumption | rfl | exact atI_nat (j := 0) rfl | exact atI_nat (j := 1) rfl | exact atI_nat (j := 2) rfl | exact at_ints (by omega) (by omega))
local macro_rules | `(tactic| walk_at "sz") => `(tactic| first | assumption | decide | exact sz4 (by omega) | exact sz4' (by omega) | (simp only [List.length_map, List.length_append, List.length_cons, List.length_nil, List.length_range, List.length_replicate]; first | exact sz4 (by omega) | exact sz4' (by omega) | omega))
local macro_rules | `(tactic| walk_at "mul") => `(tactic| first | exact .inr ⟨by decide, by decide⟩ | exact mul_fm (by decide) (by decide) | exact .inl ⟨by omega, by omega⟩ | exact .inr ⟨by omega, by omega⟩)
local macro_rules | `(tactic| walk_at "div") => `(tactic| with_reducible first | exact div97 | exact div3 | exact div2 | exact div_m (by assumption) (by assumption))
local macro_rules | `(tactic| walk_at "nz") => `(tactic| first | decide | omega)
local macro_rules | `(tactic| walk_at "rd") => `(tactic| repeat' walk_at "rd1")
local macro_rules | `(tactic| walk_at "rdA") => `(tactic| with_reducible first
  | refine rd_op ?_
  | refine rd_c ?_
  | refine rd_cb ?_
  | refine rd_cons ?_
  | refine rd_nil ?_
  | refine rd_bl ?_
  | refine rd_ii ?_
  | refine rd_M1 ?_
  | refine rd_M0 ?_
  | refine rd_isS ?_
  | refine rd_test ?_
  | refine rd_B ?_
  | refine rd_and ?_
  | refine rd_or ?_
  | refine rd_not ?_
  | refine rd_andV ?_
  | refine rd_orV ?_
  | refine rd_notV ?_
  | refine rd_ifE ?_
  | refine rd_chain ?_
  | refine rd_seq ?_
  | refine rd_if ?_
  | refine rd_asg ?_
  | refine rd_gname ?_
  | refine rd_gsub ?_
  | refine rd_drop ?_
  | refine rd_ret ?_
  | refine rd_retN ?_
  | refine rd_brk ?_
  | refine rd_cnt ?_
  | refine rd_next ?_
  | refine rd_tup ?_
  | refine rd_lst ?_
  | refine rd_BM ?_
  | refine rd_gcons ?_
  | refine rd_gnil ?_
  | refine rd_sl ?_
  | refine rd_nopart ?_
  | refine rd_part ?_
  | refine rd_un ?_
  | refine rd_call ?_
  | refine rd_callN ?_
  | refine rd_fld ?_
  | refine rd_sfld ?_
  | refine rd_meth ?_
  | refine rd_make ?_
  | refine rd_stat ?_
  | refine rv_stat ?_
  | refine rd_lenSet ?_
  | refine rd_dget ?_
  | refine rd_din ?_
  | refine rd_dnin ?_
  | refine rd_dput ?_
  | refine rd_dnewK ?_
  | refine rd_dnewT ?_
  | refine rd_listRg ?_
  | refine rd_rg1 ?_
  | refine rd_rg2 ?_
  | refine rv_i2 ?_
  | refine rd_yes ?_
  | refine rd_iList ?_
  | refine rd_iTup ?_
  | refine rd_augS ?_
  | refine rv_ipI ?_
  | refine rd_zipA ?_
  | refine rd_enumT ?_
  | refine rd_for ?_
  | refine rd_rng1 ?_
  | refine rd_revL ?_
  | refine rv_addI ?_
  | refine rv_sub ?_
  | refine rv_lt ?_
  | refine rv_le ?_
  | refine rv_gt ?_
  | refine rv_ge ?_
  | refine rv_eqI ?_
  | refine rv_neI ?_
  | refine rv_eqS ?_
  | refine rv_eqB ?_
  | refine rv_neS ?_
  | refine rv_neB ?_
  | refine rv_int ?_
  | refine rv_inS ?_
  | refine rv_isNn ?_
  | refine rv_isNr ?_
  | refine rv_isNi ?_
  | refine rv_isNb ?_
  | refine rv_isNs ?_
  | refine rv_notNn ?_
  | refine rv_notNr ?_
  | refine rv_notNi ?_
  | refine rv_ninS ?_
  | refine rv_abs ?_
  | refine rv_max2 ?_
  | refine rv_min2 ?_
  | refine rv_ord ?_
  | refine rv_neg ?_
  | refine iteT ?_
  | refine iteF ?_
  | refine iteD (fun h => ?_) (fun h => ?_)
  | refine iteND (fun h => ?_) (fun h => ?_))
local macro_rules | `(tactic| walk_at "rd1") => `(tactic| first
  | ((with_reducible refine' rd_andB ?h ?_); (case h => (intro Qe hq; walk_at "rd"; exact hq)))
  | ((with_reducible refine' rd_orB ?h ?_); (case h => (intro Qe hq; walk_at "rd"; exact hq)))
  | walk_at "rdA"
  | ((with_reducible refine' rd_var ?h ?_); (case h => rfl))
  | ((with_reducible refine' rd_wipe ?h ?_); (case h => rfl))
  | ((with_reducible refine' rd_aug ?h ?_); (case h => rfl))
  | ((with_reducible refine' rv_ixL ?h ?c ?_); (case h => walk_at "sq"); (case c => walk_at "at"))
  | ((with_reducible refine' rv_ixS ?h ?c ?_); (case h => walk_at "sz"); (case c => walk_at "at"))
  | ((with_reducible refine' rv_setL ?h ?c ?_); (case h => walk_at "hp"); (case c => rfl))
  | ((with_reducible refine' rv_mulI ?h ?_); (case h => walk_at "mul"))
  | ((with_reducible refine' rv_mod ?h ?_); (case h => walk_at "nz"))
  | ((with_reducible refine' rv_div ?h ?_); (case h => walk_at "div"))
  | ((with_reducible refine' rv_pow ?h ?_); (case h => exact ⟨by decide, by decide, by decide⟩))
  | ((with_reducible refine' rv_get ?h ?h0 ?c ?_); (case h => walk_at "sq"); (case h0 => omega); (case c => walk_at "at"))
  | ((with_reducible refine' rv_lenL ?h ?_); (case h => walk_at "sq"))
  | ((with_reducible refine' rv_lenS ?h ?_); (case h => walk_at "sz"))
  | ((with_reducible refine' rv_addS ?h ?_); (case h => walk_at "sz"))
  | ((with_reducible refine' rd_tyL ?h ?_); (case h => walk_at "sq"))
  | (with_reducible refine rd_tyS ?_)
  | ((with_reducible refine' rv_inL ?h ?hx ?hf ?_); (case h => walk_at "sq"); (case hx => rfl); (case hf => rfl))
  | ((with_reducible refine' rv_ninL ?h ?hx ?hf ?_); (case h => walk_at "sq"); (case hx => rfl); (case hf => rfl))
  | ((with_reducible refine' rv_all ?h ?_); (case h => walk_at "sq"))
  | ((with_reducible refine' rv_addL ?h1 ?h2 ?h3 (fun p hp => ?_)); (case h1 => walk_at "hp"); (case h2 => walk_at "hp"); (case h3 => walk_at "sz"))
  | (with_reducible refine iteB (fun h => ?_) (fun h => ?_))
  | (refine ⟨rfl, rfl, ?_⟩)
  | ((with_reducible refine' rv_up ?h ?_); (case h => omega))
  | ((with_reducible refine' rv_iL ?h ?_); (case h => walk_at "sq"))
  | ((with_reducible refine' rv_iT ?h ?_); (case h => walk_at "sqt"))
  | ((with_reducible refine' rv_listL ?h (fun p hp => ?_)); (case h => walk_at "sq"))
  | ((with_reducible refine' rv_listT ?h (fun p hp => ?_)); (case h => walk_at "sqt"))
  | ((with_reducible refine' rv_tupL ?h (fun p hp => ?_)); (case h => walk_at "sq"))
  | ((with_reducible refine' rv_tupT ?h ?_); (case h => walk_at "sqt"))
  | ((with_reducible refine' rv_ixT ?h ?c ?_); (case h => walk_at "sqt"); (case c => walk_at "at"))
  | ((with_reducible refine' rd_gtup ?h ?c ?_); (case h => walk_at "sqt"); (case c => rfl))
  | ((with_reducible refine' rv_lenT ?h ?_); (case h => walk_at "sqt"))
  | ((with_reducible refine' rv_isiB ?h ?_); (case h => with_reducible first | exact isi_bool_bool | exact isi_bool_int | exact isi_bool_str | exact isi_bool_list | exact isi_bool_tuple | exact isi_bool_dict))
  | ((with_reducible refine' rv_isiI ?h ?_); (case h => with_reducible first | exact isi_int_bool | exact isi_int_int | exact isi_int_str | exact isi_int_list | exact isi_int_tuple | exact isi_int_dict))
  | ((with_reducible refine' rv_isiS ?h ?_); (case h => with_reducible first | exact isi_str_bool | exact isi_str_int | exact isi_str_str | exact isi_str_list | exact isi_str_tuple | exact isi_str_dict))
  | ((with_reducible refine' rv_isiN ?h ?_); (case h => with_reducible first | exact isi_NoneType_bool | exact isi_NoneType_int | exact isi_NoneType_str | exact isi_NoneType_list | exact isi_NoneType_tuple | exact isi_NoneType_dict))
  | ((with_reducible refine' rv_isiL ?e ?h ?_); (case e => walk_at "hp"); (case h => with_reducible first | exact isi_list_bool | exact isi_list_int | exact isi_list_str | exact isi_list_list | exact isi_list_tuple | exact isi_list_dict))
  | ((with_reducible refine' rv_isiT ?e ?h ?_); (case e => walk_at "hp"); (case h => with_reducible first | exact isi_tuple_bool | exact isi_tuple_int | exact isi_tuple_str | exact isi_tuple_list | exact isi_tuple_tuple | exact isi_tuple_dict))
  | ((with_reducible refine' rv_revL ?h ?_); (case h => walk_at "sq"))
  | (with_reducible refine fun (p : Addr) (hp : _ = none) => ?_)
  | ((with_reducible refine' rv_slL ?h (fun p hp => ?_)); (case h => walk_at "sq"))
  | ((with_reducible refine' rv_slS ?h ?_); (case h => walk_at "sz"))
  | ((with_reducible refine' rv_ext ?h ?h2 ?c ?_); (case h => walk_at "hp"); (case h2 => walk_at "hp"); (case c => walk_at "sz"))
  | (refine ⟨(by simp only [List.length_cons, List.length_nil]; decide), fun p hp => ?_⟩)
  | ((with_reducible refine' rv_app ?h ?c ?_); (case h => walk_at "hp"); (case c => walk_at "sz"))
  )
local macro_rules | `(tactic| walk_at "bag") => `(tactic| first | assumption | (refine ⟨_, _, _, _, _, upd_same, (by assumption), ?hp, (by omega), (by omega)⟩; (case hp => walk_at "hp")) | exact ⟨_, _, _, _, _, (by assumption), (by assumption), (by assumption), (by assumption), (by assumption)⟩ | (refine BagAt.new ?_ (by assumption); walk_at "bag") | (refine BagAt.put ?_ (by assumption) (by assumption); walk_at "bag"))

theorem gT_out {n : Nat} {tab : List (List Int)} {i j : Nat} (h1 : tab.length = n) (h2 : ∀ row ∈ tab, row.length = n) (h : ¬ (i < n ∧ j < n)) : gT tab i j = 0 := by
  unfold gT
  by_cases hi : i < n
  · have gi := List.getElem?_eq_getElem (show i < tab.length by omega)
    rw [getD_of gi, List.getD_eq_getElem?_getD, List.getElem?_eq_none (by rw [h2 _ (List.mem_of_getElem? gi)]; omega)]; rfl
  · rw [List.getD_eq_getElem?_getD (l := tab), List.getElem?_eq_none (by omega)]; rfl
def spLifted : Sp := fun vs H Q _ => ∃ (b c : Addr) (cs : List Int) (n : Nat) (l : Addr) (ls : List Addr) (tab : List (List Int)), vs = [.ref b, .ref l] ∧ n ≤ 100 ∧ BagAt b c cs H ∧ TabAt H l ls tab ∧ tab.length = n ∧ (∀ row ∈ tab, row.length = n) ∧ (∀ i, i < n → gT tab i i = 0) ∧ (∀ i j, Bnd (gT tab i j)) ∧ ls.Nodup ∧ l ∉ ls ∧ (∀ z ∈ l :: ls, z ≠ b ∧ z ≠ c) ∧
  ∀ H' l' ls' tab', Off b H H' → BagAt b c cs H' → TabAt H' l' ls' tab' → tab'.length = n → (∀ row ∈ tab', row.length = n) → (∀ i, i < n → gT tab' i i = 0) → (∀ i j, Bnd (gT tab' i j)) → ls'.Nodup → l' ∉ ls' → (∀ z ∈ l' :: ls', z ≠ b ∧ z ≠ c) → Q (.ref l') H'
section
variable {P : Program} {w : World} {K : PySem.W.Frag} {mg : Str → Option Value} {base : Heap}
theorem ok_law_lifted (T : Txt K mg) : FnOk P w K mg base CX0 2 T.f_law_lifted T.fd_law_lifted ["bag", "rows"] spLifted := by
  refine T.F_law_lifted.ok sc_law_lifted (fun vs H Q E h => ?_) (fun cdv A outer s H vs Q E hr h => ?_)
  · obtain ⟨b, c, cs, n, l, ls, tab, rfl, _⟩ := h
    rfl
  · obtain ⟨b, c, cs, n, l, ls, tab, rfl, hn, B, TA, lt, sq, dg, ng, nd, nl, sl, q⟩ := h
    refine ⟨_, (pss_cons (ps_if (pt_cmpR dGt (pe_call (ok_law_draw T) (hr.mono (by omega)) (by rfl) T.g_law_draw T.F_law_draw.kp T.b_law_draw .nil pass0 (pa_cons (pv 0) (pa_cons pe_int pa_nil))) pe_int (nomark _))
    (pss_one (ps_ret (pv 1)))
    pss_nil)
   (pss_cons (ps_set (i := 2) sc_law_lifted.nd rfl (by first | exact Or.inl rfl | exact Or.inr rfl) (pe_callB (dLen K) (by rfl) T.n_len (by decide +kernel) (pa_cons (pv 1) pa_nil)))
   (pss_one (ps_ret (pe_lc (own := [("a", 4)]) (g := gName 4) (tt := tYes) rfl sc_law_lifted.nd  (pi_range1 rfl T.n_range (pa_cons (pv 2) pa_nil)) (blkOk_by (own := [("a", 4)]) (N := ["bag", "rows", "size", "b", "a"]) (sc := defScope s_law_lifted) (by decide +kernel)) (fun _ _ _ _ _ => (pg_name (i := 4) sc_law_lifted.nd rfl (by first | exact Or.inl rfl | exact Or.inr rfl))) (fun _ _ _ _ _ => pts_nil) (fun _ _ _ _ _ => (pe_lc (own := [("b", 3)]) (g := gName 3) (tt := tYes) rfl sc_law_lifted.nd  (pi_range1 rfl T.n_range (pa_cons (pv 2) pa_nil)) (blkOk_by (own := [("b", 3)]) (N := ["bag", "rows", "size", "b", "a"]) (by rfl)) (fun _ _ _ _ _ => (pg_name (i := 3) sc_law_lifted.nd rfl (by first | exact Or.inl rfl | exact Or.inr rfl))) (fun _ _ _ _ _ => pts_nil) (fun _ _ _ _ _ => (pe_ifExp (pt_cmpR dNe (pv 4) (pv 3) (nomark _)) (pe_op dSub (pe_op dPow pe_int pe_int) (pe_ix (dIx K) (pe_ix (dIx K) (pv 1) (pv 4) (fun _ _ => rfl)) (pv 3) (fun _ _ => rfl))) pe_int))))))))), ?_⟩
    walk_at "rd"
    refine ⟨b, c, cs, 4, rfl, by decide, by decide, B, fun H1 v f1 B1 v0 v1 => ?_⟩
    have TA1 := TA.off f1 fun z hz => (sl z hz).1
    have el1 := TA1.tb
    have ll := TA1.len
    walk_at "rd"
    · exact q H1 l ls tab f1 B1 TA1 lt sq dg ng nd nl sl
    · refine rd_lc ?_
      walk_at "rd"
      rw [show (ls.map V.ref).length = n by rw [List.length_map]; omega]
      refine ⟨_, rfl, by omega, by omega, ?_⟩
      rw [show ((n : Int)).toNat = n by omega]
      refine lc_fresh (walk_range (lo := 0) (n := n)) (fun i => (List.range n).map fun j => if i ≠ j then 1000000000 - gT tab i j else 0) (by omega) (fun _ _ => trivial) same_fn ?_ ?_
      · rintro i x H' H10 Nx E hi s10 s10' ⟨rfl, hx⟩ hN
        obtain rfl : x = V.int (i : Int) := by rw [hx]; show V.int (0 + (i : Int)) = _; rw [Int.zero_add]
        walk_at "rd"
        refine rd_lc ?_
        walk_at "rd"
        refine ⟨_, rfl, by omega, by omega, ?_⟩
        rw [show ((n : Int)).toNat = n by omega]
        refine lc_pureF (walk_range (lo := 0) (n := n)) (fun _ => true) (fun j => .int (if i ≠ j then 1000000000 - gT tab i j else 0)) (by omega) (fun _ _ => trivial) same_fn ?_ ?_
        · rintro j x H' H11 Nx' E' hj s11 s11' ⟨rfl, hx'⟩ hN' _
          obtain rfl : x = V.int (j : Int) := by rw [hx']; show V.int (0 + (j : Int)) = _; rw [Int.zero_add]
          have TAa := (TA1.same s10).same s11
          obtain ⟨r, er, ehr, ar⟩ := TAa.get (List.getElem?_eq_getElem (show i < tab.length by omega))
          have ela := TAa.tb
          have av := row_at lt sq hi hj
          walk_at "rd"
          · rename_i h
            rw [if_pos (fun e => h (by rw [e]))] at hN'
            exact hN' rfl _ fun _ _ e => e
          · rename_i h
            rw [if_neg (fun e => e (by omega))] at hN'
            exact hN' rfl _ fun _ _ e => e
        · intro D3 H11 hD3 s11 e11
          refine hN D3 H11 s11 hD3 ?_
          rw [e11, List.filter_eq_self.mpr fun _ _ => rfl, List.map_map]
          rfl
      · intro D2 gs2 H10 hD2 s10 eD2 pr2 nd2' fr2
        have TD2 : TabAt H10 D2 gs2 (mkT n fun i j => if i ≠ j then 1000000000 - gT tab i j else 0) := tab_range (mkT_len ..) eD2 (paired_mapP pr2 fun r i hm h => by
          rw [h, getD_of (mkT_get _ (List.mem_range.mp hm))])
        have fr9 := cons_all (P := fun x => H1 x = none) hD2 fun r hr => (fr2 r hr).1
        walk_at "rd"
        refine q H10 D2 gs2 _ (f1.trans (Off.of_same s10)) (B1.same s10) TD2 (mkT_len ..) (mkT_sq _ _) (fun i hi => by rw [gT_mk _ hi hi, if_neg (fun z => z rfl)]) (fun i j => ?_) nd2' (fun h => (fr2 _ h).2 rfl) fun z hz => ⟨B1.ne (fr9 z hz), B1.ne2 (fr9 z hz)⟩
        by_cases h : i < n ∧ j < n
        · rw [gT_mk _ h.1 h.2]
          have := ng i j
          split
          · exact ⟨by have := this.2; omega, by have := this.1; omega⟩
          · decide
        · rw [gT_out (mkT_len ..) (mkT_sq _ _) h]; decide
end
end K29
namespace K29
open PySem PySem.Spec PyProof.Rows L2 D0
local macro_rules | `(tactic| walk_at "neB") => `(tactic| with_reducible first | assumption | (apply Ne.symm; assumption) | (refine' BagAt.ne ?x ?h; (case h => assumption); (case x => assumption)))
local macro_rules | `(tactic| walk_at "hq") => `(tactic| with_reducible first | assumption | exact upd_same | ((first | (refine' hp_new ?nn ?hq; (case nn => assumption)) | (refine' Off.get ?f ?ne ?hq; (case f => assumption); (case ne => walk_at "neB"))); (case hq => walk_at "hq")))
local macro_rules | `(tactic| walk_at "neA") => `(tactic| with_reducible first | (refine' BagAt.ne ?x ?h; (case h => assumption); (case x => assumption)) | (refine' ne_of_none ?x ?h; (case h => assumption); (case x => walk_at "hq")))
local macro_rules | `(tactic| walk_at "ne") => `(tactic| with_reducible first | assumption | (apply Ne.symm; assumption) | walk_at "neA" | (apply Ne.symm; walk_at "neA"))
local macro_rules | `(tactic| walk_at "off") => `(tactic| with_reducible repeat' (first | assumption | exact Off.refl _ _ | apply Off.set | (refine' Off.new ?_ ?h; (case h => assumption)) | (refine' Off.trans ?_ ?f; (case f => assumption))))
local macro_rules | `(tactic| walk_at "hp") => `(tactic| with_reducible first | assumption | exact upd_same | ((first | (refine' hp_new ?nn ?hp; (case nn => assumption)) | (refine' hp_set ?ne ?hp; (case ne => walk_at "ne")) | (refine' Off.get ?f ?ne ?hp; (case f => assumption); (case ne => walk_at "ne"))); (case hp => walk_at "hp")))
local macro_rules | `(tactic| walk_at "sq") => `(tactic| with_reducible first | assumption | (refine' SqL.of ?hh; (case hh => walk_at "hp")) | ((first | (refine' sq_new ?nn ?sq; (case nn => assumption)) | (refine' sq_set ?ne ?sq; (case ne => walk_at "ne")) | (refine' Off.seq ?f ?ne ?sq; (case f => assumption); (case ne => walk_at "ne"))); (case sq => walk_at "sq")))
local macro_rules | `(tactic| walk_at "sqt") => `(tactic| with_reducible first | assumption | (refine' SqT.of ?hh; (case hh => walk_at "hp")) | ((first | (refine' sqt_new ?nn ?sq; (case nn => assumption)) | (refine' sqt_set ?ne ?sq; (case ne => walk_at "ne")) | (refine' Off.seqT ?f ?ne ?sq; (case f => assumption); (case ne => walk_at "ne"))); (case sq => walk_at "sqt")))
/- straight-line steps of a reading -/
local macro_rules | `(tactic| walk_at "at") => `(tactic| first | assumption | rfl | exact atI_nat (j := 0) rfl | exact atI_nat (j := 1) rfl | exact atI_nat (j := 2) rfl | exact at_ints (by omega) (by omega))
local macro_rules | `(tactic| walk_at "sz") => `(tactic| first | assumption | decide | exact sz4 (by omega) | exact sz4' (by omega) | (simp only [List.length_map, List.length_append, List.length_cons, List.length_nil, List.length_range, List.length_replicate]; first | exact sz4 (by omega) | exact sz4' (by omega) | omega))
local macro_rules | `(tactic| walk_at "mul") => `(tactic| first | exact .inr ⟨by decide, by decide⟩ | exact mul_fm (by decide) (by decide) | exact .inl ⟨by omega, by omega⟩ | exact .inr ⟨by omega, by omega⟩)
local macro_rules | `(tactic| walk_at "div") => `(tactic| with_reducible first | exact div97 | exact div3 | exact div2 | exact div_m (by assumption) (by assumption))
local macro_rules | `(tactic| walk_at "nz") => `(tactic| first | decide | omega)
local macro_rules | `(tactic| walk_at "rd") => `(tactic| repeat' walk_at "rd1")
local macro_rules | `(tactic| walk_at "rdA") => `(tactic| with_reducible first
  | refine rd_op ?_
  | refine rd_c ?_
  | refine rd_cb ?_
  | refine rd_cons ?_
  | refine rd_nil ?_
  | refine rd_bl ?_
  | refine rd_ii ?_
  | refine rd_M1 ?_
  | refine rd_M0 ?_
  | refine rd_isS ?_
  | refine rd_test ?_
  | refine rd_B ?_
  | refine rd_and ?_
  | refine rd_or ?_
  | refine rd_not ?_
  | refine rd_andV ?_
  | refine rd_orV ?_
  | refine rd_notV ?_
  | refine rd_ifE ?_
  | refine rd_chain ?_
  | refine rd_seq ?_
  | refine rd_if ?_
  | refine rd_asg ?_
  | refine rd_gname ?_
  | refine rd_gsub ?_
  | refine rd_drop ?_
  | refine rd_ret ?_
  | refine rd_retN ?_
  | refine rd_brk ?_
  | refine rd_cnt ?_
  | refine rd_next ?_
  | refine rd_tup ?_
  | refine rd_lst ?_
  | refine rd_BM ?_
  | refine rd_gcons ?_
  | refine rd_gnil ?_
  | refine rd_sl ?_
  | refine rd_nopart ?_
  | refine rd_part ?_
  | refine rd_un ?_
  | refine rd_call ?_
  | refine rd_callN ?_
  | refine rd_fld ?_
  | refine rd_sfld ?_
  | refine rd_meth ?_
  | refine rd_make ?_
  | refine rd_stat ?_
  | refine rv_stat ?_
  | refine rd_lenSet ?_
  | refine rd_dget ?_
  | refine rd_din ?_
  | refine rd_dnin ?_
  | refine rd_dput ?_
  | refine rd_dnewK ?_
  | refine rd_dnewT ?_
  | refine rd_listRg ?_
  | refine rd_rg1 ?_
  | refine rd_rg2 ?_
  | refine rv_i2 ?_
  | refine rd_yes ?_
  | refine rd_iList ?_
  | refine rd_iTup ?_
  | refine rd_augS ?_
  | refine rv_ipI ?_
  | refine rd_zipA ?_
  | refine rd_enumT ?_
  | refine rd_for ?_
  | refine rd_rng1 ?_
  | refine rd_revL ?_
  | refine rv_addI ?_
  | refine rv_sub ?_
  | refine rv_lt ?_
  | refine rv_le ?_
  | refine rv_gt ?_
  | refine rv_ge ?_
  | refine rv_eqI ?_
  | refine rv_neI ?_
  | refine rv_eqS ?_
  | refine rv_eqB ?_
  | refine rv_neS ?_
  | refine rv_neB ?_
  | refine rv_int ?_
  | refine rv_inS ?_
  | refine rv_isNn ?_
  | refine rv_isNr ?_
  | refine rv_isNi ?_
  | refine rv_isNb ?_
  | refine rv_isNs ?_
  | refine rv_notNn ?_
  | refine rv_notNr ?_
  | refine rv_notNi ?_
  | refine rv_ninS ?_
  | refine rv_abs ?_
  | refine rv_max2 ?_
  | refine rv_min2 ?_
  | refine rv_ord ?_
  | refine rv_neg ?_
  | refine iteT ?_
  | refine iteF ?_
  | refine iteD (fun h => ?_) (fun h => ?_)
  | refine iteND (fun h => ?_) (fun h => ?_))
local macro_rules | `(tactic| walk_at "rd1") => `(tactic| first
  | ((with_reducible refine' rd_andB ?h ?_); (case h => (intro Qe hq; walk_at "rd"; exact hq)))
  | ((with_reducible refine' rd_orB ?h ?_); (case h => (intro Qe hq; walk_at "rd"; exact hq)))
  | walk_at "rdA"
  | ((with_reducible refine' rd_var ?h ?_); (case h => rfl))
  | ((with_reducible refine' rd_wipe ?h ?_); (case h => rfl))
  | ((with_reducible refine' rd_aug ?h ?_); (case h => rfl))
  | ((with_reducible refine' rv_ixL ?h ?c ?_); (case h => walk_at "sq"); (case c => walk_at "at"))
  | ((with_reducible refine' rv_ixS ?h ?c ?_); (case h => walk_at "sz"); (case c => walk_at "at"))
  | ((with_reducible refine' rv_setL ?h ?c ?_); (case h => walk_at "hp"); (case c => rfl))
  | ((with_reducible refine' rv_mulI ?h ?_); (case h => walk_at "mul"))
  | ((with_reducible refine' rv_mod ?h ?_); (case h => walk_at "nz"))
  | ((with_reducible refine' rv_div ?h ?_); (case h => walk_at "div"))
  | ((with_reducible refine' rv_pow ?h ?_); (case h => exact ⟨by decide, by decide, by decide⟩))
  | ((with_reducible refine' rv_get ?h ?h0 ?c ?_); (case h => walk_at "sq"); (case h0 => omega); (case c => walk_at "at"))
  | ((with_reducible refine' rv_lenL ?h ?_); (case h => walk_at "sq"))
  | ((with_reducible refine' rv_lenS ?h ?_); (case h => walk_at "sz"))
  | ((with_reducible refine' rv_addS ?h ?_); (case h => walk_at "sz"))
  | ((with_reducible refine' rd_tyL ?h ?_); (case h => walk_at "sq"))
  | (with_reducible refine rd_tyS ?_)
  | ((with_reducible refine' rv_inL ?h ?hx ?hf ?_); (case h => walk_at "sq"); (case hx => rfl); (case hf => rfl))
  | ((with_reducible refine' rv_ninL ?h ?hx ?hf ?_); (case h => walk_at "sq"); (case hx => rfl); (case hf => rfl))
  | ((with_reducible refine' rv_all ?h ?_); (case h => walk_at "sq"))
  | ((with_reducible refine' rv_addL ?h1 ?h2 ?h3 (fun p hp => ?_)); (case h1 => walk_at "hp"); (case h2 => walk_at "hp"); (case h3 => walk_at "sz"))
  | (with_reducible refine iteB (fun h => ?_) (fun h => ?_))
  | (refine ⟨rfl, rfl, ?_⟩)
  | ((with_reducible refine' rv_up ?h ?_); (case h => omega))
  | ((with_reducible refine' rv_iL ?h ?_); (case h => walk_at "sq"))
  | ((with_reducible refine' rv_iT ?h ?_); (case h => walk_at "sqt"))
  | ((with_reducible refine' rv_listL ?h (fun p hp => ?_)); (case h => walk_at "sq"))
  | ((with_reducible refine' rv_listT ?h (fun p hp => ?_)); (case h => walk_at "sqt"))
  | ((with_reducible refine' rv_tupL ?h (fun p hp => ?_)); (case h => walk_at "sq"))
  | ((with_reducible refine' rv_tupT ?h ?_); (case h => walk_at "sqt"))
  | ((with_reducible refine' rv_ixT ?h ?c ?_); (case h => walk_at "sqt"); (case c => walk_at "at"))
  | ((with_reducible refine' rd_gtup ?h ?c ?_); (case h => walk_at "sqt"); (case c => rfl))
  | ((with_reducible refine' rv_lenT ?h ?_); (case h => walk_at "sqt"))
  | ((with_reducible refine' rv_isiB ?h ?_); (case h => with_reducible first | exact isi_bool_bool | exact isi_bool_int | exact isi_bool_str | exact isi_bool_list | exact isi_bool_tuple | exact isi_bool_dict))
  | ((with_reducible refine' rv_isiI ?h ?_); (case h => with_reducible first | exact isi_int_bool | exact isi_int_int | exact isi_int_str | exact isi_int_list | exact isi_int_tuple | exact isi_int_dict))
  | ((with_reducible refine' rv_isiS ?h ?_); (case h => with_reducible first | exact isi_str_bool | exact isi_str_int | exact isi_str_str | exact isi_str_list | exact isi_str_tuple | exact isi_str_dict))
  | ((with_reducible refine' rv_isiN ?h ?_); (case h => with_reducible first | exact isi_NoneType_bool | exact isi_NoneType_int | exact isi_NoneType_str | exact isi_NoneType_list | exact isi_NoneType_tuple | exact isi_NoneType_dict))
  | ((with_reducible refine' rv_isiL ?e ?h ?_); (case e => walk_at "hp"); (case h => with_reducible first | exact isi_list_bool | exact isi_list_int | exact isi_list_str | exact isi_list_list | exact isi_list_tuple | exact isi_list_dict))
  | ((with_reducible refine' rv_isiT ?e ?h ?_); (case e => walk_at "hp"); (case h => with_reducible first | exact isi_tuple_bool | exact isi_tuple_int | exact isi_tuple_str | exact isi_tuple_list | exact isi_tuple_tuple | exact isi_tuple_dict))
  | ((with_reducible refine' rv_revL ?h ?_); (case h => walk_at "sq"))
  | (with_reducible refine fun (p : Addr) (hp : _ = none) => ?_)
  | ((with_reducible refine' rv_slL ?h (fun p hp => ?_)); (case h => walk_at "sq"))
  | ((with_reducible refine' rv_slS ?h ?_); (case h => walk_at "sz"))
  | ((with_reducible refine' rv_ext ?h ?h2 ?c ?_); (case h => walk_at "hp"); (case h2 => walk_at "hp"); (case c => walk_at "sz"))
  | (refine ⟨(by simp only [List.length_cons, List.length_nil]; decide), fun p hp => ?_⟩)
  | ((with_reducible refine' rv_app ?h ?c ?_); (case h => walk_at "hp"); (case c => walk_at "sz"))
  )
local macro_rules | `(tactic| walk_at "bag") => `(tactic| first | assumption | (refine ⟨_, _, _, _, _, upd_same, (by assumption), ?hp, (by omega), (by omega)⟩; (case hp => walk_at "hp")) | exact ⟨_, _, _, _, _, (by assumption), (by assumption), (by assumption), (by assumption), (by assumption)⟩ | (refine BagAt.new ?_ (by assumption); walk_at "bag") | (refine BagAt.put ?_ (by assumption) (by assumption); walk_at "bag"))

/-- the key of a subset -/
def kk (o : List Nat) : List Key := o.map fun k => Sum.inl ((k : Nat) : Int)
theorem kk_nats (o : List Nat) : (kk o).map kV = natsV o := by unfold kk natsV; rw [List.map_map]; rfl
theorem kk_inj {o m : List Nat} (h : kk o = kk m) : o = m := by
  induction o generalizing m with
  | nil => cases m with
    | nil => rfl
    | cons _ _ => cases h
  | cons x o ih => cases m with
    | nil => cases h
    | cons y m =>
      unfold kk at h
      rw [List.map_cons, List.map_cons] at h
      injection h with h1 h2
      injection h1 with h1
      rw [ih h2, Int.ofNat.inj h1]
/-- the rows of a table as a tuple of tuples -/
def TupTab (H : Hp) (u : Addr) (tab : List (List Int)) : Prop := ∃ ps : List Addr, H u = some (.tup (ps.map V.ref)) ∧ Paired (fun x row => H x = some (.tup (row.map V.int))) ps tab
theorem TupTab.same {H H' : Hp} {u : Addr} {tab : List (List Int)} (x : TupTab H u tab) (s : Same H H') : TupTab H' u tab := by
  obtain ⟨ps, e, p⟩ := x
  exact ⟨ps, s _ _ e, Paired.mapP p fun _ _ h => s _ _ h⟩
def spPriceLast : Sp := fun vs H Q _ => ∃ (n : Nat) (u : Addr) (tab : List (List Int)) (d : Addr) (kvs : List (List Key × V)) (a : Addr) (o : List Nat) (m : Nat) (v : Int), vs = [.ref u, .ref d, .ref a, .int m] ∧ n ≤ 100 ∧ TupTab H u tab ∧ tab.length = n ∧ (∀ row ∈ tab, row.length = n) ∧ H d = some (.dT kvs) ∧ H a = some (.tup (natsV o)) ∧ o.length ≤ 100 ∧ (∀ k ∈ o, k < n) ∧ m < n ∧ valV kvs (kk (o.filter fun k => decide (k ≠ m))) = some (.int v) ∧
  ∀ H', Same H H' → Q (.int (v + (o.map fun k => gT tab k m).sum)) H'
section
variable {P : Program} {w : World} {K : PySem.W.Frag} {mg : Str → Option Value} {base : Heap}
theorem ok_price_with_last (T : Txt K mg) : FnOk P w K mg base CX0 2 T.f_price_with_last T.fd_price_with_last ["rows", "table", "subset", "last"] spPriceLast := by
  refine T.F_price_with_last.ok sc_price_with_last (fun vs H Q E h => ?_) (fun cdv A outer s H vs Q E hr h => ?_)
  · obtain ⟨n, u, tab, d, kvs, a, o, m, v, rfl, _⟩ := h
    rfl
  · obtain ⟨n, u, tab, d, kvs, a, o, m, v, rfl, hn, TT, lt, sq, ed, ea, lo, ho, hm, hv, q⟩ := h
    refine ⟨_, (pss_one (ps_ret (pe_op (dAdd K) (pe_dget (hu_of hr) (pv 1) (pe_call (ok_without T) (hr.mono (by omega)) (by rfl) T.g_without T.F_without.kp T.b_without .nil pass0 (pa_cons (pv 2) (pa_cons (pv 3) pa_nil))) (fun _ _ => rfl)) (pe_callB (dSum K rfl) (by rfl) T.n_sum (by decide +kernel) (pa_cons (pe_lc (own := [("other", 4)]) (g := gName 4) (tt := tYes) rfl sc_price_with_last.nd  (dpi_tup K (pv 2)) (blkOk_by (own := [("other", 4)]) (N := ["rows", "table", "subset", "last", "other"]) (sc := defScope s_price_with_last) (by decide +kernel)) (fun _ _ _ _ _ => (pg_name (i := 4) sc_price_with_last.nd rfl (by first | exact Or.inl rfl | exact Or.inr rfl))) (fun _ _ _ _ _ => pts_nil) (fun _ _ _ _ _ => (pe_ix (dIx K) (pe_ix (dIx K) (pv 0) (pv 4) (fun _ _ => rfl)) (pv 3) (fun _ _ => rfl)))) pa_nil))))), ?_⟩
    walk_at "rd"
    refine ⟨a, o, m, rfl, lo, ea, fun H1 x s1 ex => ?_⟩
    refine rv_dget (v := .int v) ?_ ?_
    · rw [← hv]
      exact DGet.t (s1 _ _ ed) (by rw [ex, kk_nats])
    have ea1 := s1 _ _ ea
    walk_at "rd"
    refine rd_lc ?_
    walk_at "rd"
    refine lc_pureF (walk_tup (K := K) (a := a) (xs := natsV o)) (fun _ => true) (fun i => .int (gT tab (o.getD i 0) m)) (by rw [natsV_len]; omega) (fun H' s => SqT.of (s _ _ ea1)) same_at ?_ ?_
    · rintro i x' H' H2 Nx E hi s s2 ⟨rfl, hx⟩ hN _
      rw [natsV_len] at hi
      rw [natsV_get, List.getElem?_eq_getElem hi] at hx
      cases hx
      have gi : o.getD i 0 = o[i] := getD_of (List.getElem?_eq_getElem hi)
      rw [gi] at hN
      have hk := ho _ (List.getElem_mem hi)
      obtain ⟨ps, eu, pp⟩ := (TT.same s1).same s
      have lp : ps.length = n := by rw [Paired.len pp, lt]
      generalize o[i] = k at *
      obtain ⟨r, er, hr⟩ := Paired.get2 pp (List.getElem?_eq_getElem (show k < tab.length by omega))
      have ak : atI (ps.map V.ref) (k : Int) = some (.ref r) := atI_nat (by rw [List.getElem?_map, er]; rfl)
      have av := row_at lt sq hk hm
      walk_at "rd"
      exact hN rfl _ fun _ _ e => e
    · intro D H2 hD s2 e2
      have e3 : H2 D = some (.lst ((o.map fun k => gT tab k m).map V.int)) := by
        have := range_filter_map o 0 (fun _ => true) (fun k => V.int (gT tab k m))
        rw [ftrue, ftrue] at this
        rw [e2, natsV_len, ftrue, this, List.map_map]; rfl
      walk_at "rd"
      refine ⟨D, _, rfl, SqL.of e3, ?_⟩
      walk_at "rd"
      exact q H2 (s1.trans s2)
end
end K29
namespace K29
open PySem PySem.Spec PyProof.Rows L2 D0
local macro_rules | `(tactic| walk_at "neB") => `(tactic| with_reducible first | assumption | (apply Ne.symm; assumption) | (refine' BagAt.ne ?x ?h; (case h => assumption); (case x => assumption)))
local macro_rules | `(tactic| walk_at "hq") => `(tactic| with_reducible first | assumption | exact upd_same | ((first | (refine' hp_new ?nn ?hq; (case nn => assumption)) | (refine' Off.get ?f ?ne ?hq; (case f => assumption); (case ne => walk_at "neB"))); (case hq => walk_at "hq")))
local macro_rules | `(tactic| walk_at "neA") => `(tactic| with_reducible first | (refine' BagAt.ne ?x ?h; (case h => assumption); (case x => assumption)) | (refine' ne_of_none ?x ?h; (case h => assumption); (case x => walk_at "hq")))
local macro_rules | `(tactic| walk_at "ne") => `(tactic| with_reducible first | assumption | (apply Ne.symm; assumption) | walk_at "neA" | (apply Ne.symm; walk_at "neA"))
local macro_rules | `(tactic| walk_at "off") => `(tactic| with_reducible repeat' (first | assumption | exact Off.refl _ _ | apply Off.set | (refine' Off.new ?_ ?h; (case h => assumption)) | (refine' Off.trans ?_ ?f; (case f => assumption))))
local macro_rules | `(tactic| walk_at "hp") => `(tactic| with_reducible first | assumption | exact upd_same | ((first | (refine' hp_new ?nn ?hp; (case nn => assumption)) | (refine' hp_set ?ne ?hp; (case ne => walk_at "ne")) | (refine' Off.get ?f ?ne ?hp; (case f => assumption); (case ne => walk_at "ne"))); (case hp => walk_at "hp")))
local macro_rules | `(tactic| walk_at "sq") => `(tactic| with_reducible first | assumption | (refine' SqL.of ?hh; (case hh => walk_at "hp")) | ((first | (refine' sq_new ?nn ?sq; (case nn => assumption)) | (refine' sq_set ?ne ?sq; (case ne => walk_at "ne")) | (refine' Off.seq ?f ?ne ?sq; (case f => assumption); (case ne => walk_at "ne"))); (case sq => walk_at "sq")))
local macro_rules | `(tactic| walk_at "sqt") => `(tactic| with_reducible first | assumption | (refine' SqT.of ?hh; (case hh => walk_at "hp")) | ((first | (refine' sqt_new ?nn ?sq; (case nn => assumption)) | (refine' sqt_set ?ne ?sq; (case ne => walk_at "ne")) | (refine' Off.seqT ?f ?ne ?sq; (case f => assumption); (case ne => walk_at "ne"))); (case sq => walk_at "sqt")))
/- straight-line steps of a reading -/
local macro_rules | `(tactic| walk_at "at") => `(tactic| first | assumption | rfl | exact atI_nat (j := 0) rfl | exact atI_nat (j := 1) rfl | exact atI_nat (j := 2) rfl | exact at_ints (by omega) (by omega))
local macro_rules | `(tactic| walk_at "sz") => `(tactic| first | assumption | decide | exact sz4 (by omega) | exact sz4' (by omega) | (simp only [List.length_map, List.length_append, List.length_cons, List.length_nil, List.length_range, List.length_replicate]; first | exact sz4 (by omega) | exact sz4' (by omega) | omega))
local macro_rules | `(tactic| walk_at "mul") => `(tactic| first | exact .inr ⟨by decide, by decide⟩ | exact mul_fm (by decide) (by decide) | exact .inl ⟨by omega, by omega⟩ | exact .inr ⟨by omega, by omega⟩)
local macro_rules | `(tactic| walk_at "div") => `(tactic| with_reducible first | exact div97 | exact div3 | exact div2 | exact div_m (by assumption) (by assumption))
local macro_rules | `(tactic| walk_at "nz") => `(tactic| first | decide | omega)
local macro_rules | `(tactic| walk_at "rd") => `(tactic| repeat' walk_at "rd1")
local macro_rules | `(tactic| walk_at "rdA") => `(tactic| with_reducible first
  | refine rd_op ?_
  | refine rd_c ?_
  | refine rd_cb ?_
  | refine rd_cons ?_
  | refine rd_nil ?_
  | refine rd_bl ?_
  | refine rd_ii ?_
  | refine rd_M1 ?_
  | refine rd_M0 ?_
  | refine rd_isS ?_
  | refine rd_test ?_
  | refine rd_B ?_
  | refine rd_and ?_
  | refine rd_or ?_
  | refine rd_not ?_
  | refine rd_andV ?_
  | refine rd_orV ?_
  | refine rd_notV ?_
  | refine rd_ifE ?_
  | refine rd_chain ?_
  | refine rd_seq ?_
  | refine rd_if ?_
  | refine rd_asg ?_
  | refine rd_gname ?_
  | refine rd_gsub ?_
  | refine rd_drop ?_
  | refine rd_ret ?_
  | refine rd_retN ?_
  | refine rd_brk ?_
  | refine rd_cnt ?_
  | refine rd_next ?_
  | refine rd_tup ?_
  | refine rd_lst ?_
  | refine rd_BM ?_
  | refine rd_gcons ?_
  | refine rd_gnil ?_
  | refine rd_sl ?_
  | refine rd_nopart ?_
  | refine rd_part ?_
  | refine rd_un ?_
  | refine rd_call ?_
  | refine rd_callN ?_
  | refine rd_fld ?_
  | refine rd_sfld ?_
  | refine rd_meth ?_
  | refine rd_make ?_
  | refine rd_stat ?_
  | refine rv_stat ?_
  | refine rd_lenSet ?_
  | refine rd_dget ?_
  | refine rd_din ?_
  | refine rd_dnin ?_
  | refine rd_dput ?_
  | refine rd_dnewK ?_
  | refine rd_dnewT ?_
  | refine rd_listRg ?_
  | refine rd_rg1 ?_
  | refine rd_rg2 ?_
  | refine rv_i2 ?_
  | refine rd_yes ?_
  | refine rd_iList ?_
  | refine rd_iTup ?_
  | refine rd_augS ?_
  | refine rv_ipI ?_
  | refine rd_zipA ?_
  | refine rd_enumT ?_
  | refine rd_for ?_
  | refine rd_rng1 ?_
  | refine rd_revL ?_
  | refine rv_addI ?_
  | refine rv_sub ?_
  | refine rv_lt ?_
  | refine rv_le ?_
  | refine rv_gt ?_
  | refine rv_ge ?_
  | refine rv_eqI ?_
  | refine rv_neI ?_
  | refine rv_eqS ?_
  | refine rv_eqB ?_
  | refine rv_neS ?_
  | refine rv_neB ?_
  | refine rv_int ?_
  | refine rv_inS ?_
  | refine rv_isNn ?_
  | refine rv_isNr ?_
  | refine rv_isNi ?_
  | refine rv_isNb ?_
  | refine rv_isNs ?_
  | refine rv_notNn ?_
  | refine rv_notNr ?_
  | refine rv_notNi ?_
  | refine rv_ninS ?_
  | refine rv_abs ?_
  | refine rv_max2 ?_
  | refine rv_min2 ?_
  | refine rv_ord ?_
  | refine rv_neg ?_
  | refine iteT ?_
  | refine iteF ?_
  | refine iteD (fun h => ?_) (fun h => ?_)
  | refine iteND (fun h => ?_) (fun h => ?_))
local macro_rules | `(tactic| walk_at "rd1") => `(tactic| first
  | ((with_reducible refine' rd_andB ?h ?_); (case h => (intro Qe hq; walk_at "rd"; exact hq)))
  | ((with_reducible refine' rd_orB ?h ?_); (case h => (intro Qe hq; walk_at "rd"; exact hq)))
  | walk_at "rdA"
  | ((with_reducible refine' rd_var ?h ?_); (case h => rfl))
  | ((with_reducible refine' rd_wipe ?h ?_); (case h => rfl))
  | ((with_reducible refine' rd_aug ?h ?_); (case h => rfl))
  | ((with_reducible refine' rv_ixL ?h ?c ?_); (case h => walk_at "sq"); (case c => walk_at "at"))
  | ((with_reducible refine' rv_ixS ?h ?c ?_); (case h => walk_at "sz"); (case c => walk_at "at"))
  | ((with_reducible refine' rv_setL ?h ?c ?_); (case h => walk_at "hp"); (case c => rfl))
  | ((with_reducible refine' rv_mulI ?h ?_); (case h => walk_at "mul"))
  | ((with_reducible refine' rv_mod ?h ?_); (case h => walk_at "nz"))
  | ((with_reducible refine' rv_div ?h ?_); (case h => walk_at "div"))
  | ((with_reducible refine' rv_pow ?h ?_); (case h => exact ⟨by decide, by decide, by decide⟩))
  | ((with_reducible refine' rv_get ?h ?h0 ?c ?_); (case h => walk_at "sq"); (case h0 => omega); (case c => walk_at "at"))
  | ((with_reducible refine' rv_lenL ?h ?_); (case h => walk_at "sq"))
  | ((with_reducible refine' rv_lenS ?h ?_); (case h => walk_at "sz"))
  | ((with_reducible refine' rv_addS ?h ?_); (case h => walk_at "sz"))
  | ((with_reducible refine' rd_tyL ?h ?_); (case h => walk_at "sq"))
  | (with_reducible refine rd_tyS ?_)
  | ((with_reducible refine' rv_inL ?h ?hx ?hf ?_); (case h => walk_at "sq"); (case hx => rfl); (case hf => rfl))
  | ((with_reducible refine' rv_ninL ?h ?hx ?hf ?_); (case h => walk_at "sq"); (case hx => rfl); (case hf => rfl))
  | ((with_reducible refine' rv_all ?h ?_); (case h => walk_at "sq"))
  | ((with_reducible refine' rv_addL ?h1 ?h2 ?h3 (fun p hp => ?_)); (case h1 => walk_at "hp"); (case h2 => walk_at "hp"); (case h3 => walk_at "sz"))
  | (with_reducible refine iteB (fun h => ?_) (fun h => ?_))
  | (refine ⟨rfl, rfl, ?_⟩)
  | ((with_reducible refine' rv_up ?h ?_); (case h => omega))
  | ((with_reducible refine' rv_iL ?h ?_); (case h => walk_at "sq"))
  | ((with_reducible refine' rv_iT ?h ?_); (case h => walk_at "sqt"))
  | ((with_reducible refine' rv_listL ?h (fun p hp => ?_)); (case h => walk_at "sq"))
  | ((with_reducible refine' rv_listT ?h (fun p hp => ?_)); (case h => walk_at "sqt"))
  | ((with_reducible refine' rv_tupL ?h (fun p hp => ?_)); (case h => walk_at "sq"))
  | ((with_reducible refine' rv_tupT ?h ?_); (case h => walk_at "sqt"))
  | ((with_reducible refine' rv_ixT ?h ?c ?_); (case h => walk_at "sqt"); (case c => walk_at "at"))
  | ((with_reducible refine' rd_gtup ?h ?c ?_); (case h => walk_at "sqt"); (case c => rfl))
  | ((with_reducible refine' rv_lenT ?h ?_); (case h => walk_at "sqt"))
  | ((with_reducible refine' rv_isiB ?h ?_); (case h => with_reducible first | exact isi_bool_bool | exact isi_bool_int | exact isi_bool_str | exact isi_bool_list | exact isi_bool_tuple | exact isi_bool_dict))
  | ((with_reducible refine' rv_isiI ?h ?_); (case h => with_reducible first | exact isi_int_bool | exact isi_int_int | exact isi_int_str | exact isi_int_list | exact isi_int_tuple | exact isi_int_dict))
  | ((with_reducible refine' rv_isiS ?h ?_); (case h => with_reducible first | exact isi_str_bool | exact isi_str_int | exact isi_str_str | exact isi_str_list | exact isi_str_tuple | exact isi_str_dict))
  | ((with_reducible refine' rv_isiN ?h ?_); (case h => with_reducible first | exact isi_NoneType_bool | exact isi_NoneType_int | exact isi_NoneType_str | exact isi_NoneType_list | exact isi_NoneType_tuple | exact isi_NoneType_dict))
  | ((with_reducible refine' rv_isiL ?e ?h ?_); (case e => walk_at "hp"); (case h => with_reducible first | exact isi_list_bool | exact isi_list_int | exact isi_list_str | exact isi_list_list | exact isi_list_tuple | exact isi_list_dict))
  | ((with_reducible refine' rv_isiT ?e ?h ?_); (case e => walk_at "hp"); (case h => with_reducible first | exact isi_tuple_bool | exact isi_tuple_int | exact isi_tuple_str | exact isi_tuple_list | exact isi_tuple_tuple | exact isi_tuple_dict))
  | ((with_reducible refine' rv_revL ?h ?_); (case h => walk_at "sq"))
  | (with_reducible refine fun (p : Addr) (hp : _ = none) => ?_)
  | ((with_reducible refine' rv_slL ?h (fun p hp => ?_)); (case h => walk_at "sq"))
  | ((with_reducible refine' rv_slS ?h ?_); (case h => walk_at "sz"))
  | ((with_reducible refine' rv_ext ?h ?h2 ?c ?_); (case h => walk_at "hp"); (case h2 => walk_at "hp"); (case c => walk_at "sz"))
  | (refine ⟨(by simp only [List.length_cons, List.length_nil]; decide), fun p hp => ?_⟩)
  | ((with_reducible refine' rv_app ?h ?c ?_); (case h => walk_at "hp"); (case c => walk_at "sz"))
  )
local macro_rules | `(tactic| walk_at "bag") => `(tactic| first | assumption | (refine ⟨_, _, _, _, _, upd_same, (by assumption), ?hp, (by omega), (by omega)⟩; (case hp => walk_at "hp")) | exact ⟨_, _, _, _, _, (by assumption), (by assumption), (by assumption), (by assumption), (by assumption)⟩ | (refine BagAt.new ?_ (by assumption); walk_at "bag") | (refine BagAt.put ?_ (by assumption) (by assumption); walk_at "bag"))

theorem subs_lt : ∀ n, ∀ o ∈ subs n, ∀ x ∈ o, x < n
  | 0, o, h, x, hx => by rw [List.mem_singleton.mp h] at hx; cases hx
  | n + 1, o, h, x, hx => by
    rcases List.mem_append.mp h with h | h
    · exact Nat.lt_succ_of_lt (subs_lt n o h x hx)
    · obtain ⟨o', h', rfl⟩ := List.mem_map.mp h
      rcases List.mem_append.mp hx with hx | hx
      · exact Nat.lt_succ_of_lt (subs_lt n o' h' x hx)
      · rw [List.mem_singleton.mp hx]; exact Nat.lt_succ_self n
theorem subs_nodup : ∀ n, (subs n).Nodup
  | 0 => by show [([] : List Nat)].Nodup; simp
  | n + 1 => by
    show (subs n ++ (subs n).map (· ++ [n])).Nodup
    rw [List.nodup_append]
    refine ⟨subs_nodup n, ?_, fun a ha b hb e => ?_⟩
    · refine List.Pairwise.map _ (fun a b hab e => hab ?_) (subs_nodup n)
      exact List.append_cancel_right e
    · obtain ⟨o, ho, rfl⟩ := List.mem_map.mp hb
      have := subs_lt n a ha n (by rw [e]; simp)
      omega
theorem sub_before : ∀ (n i : Nat) (o : List Nat), (subs n)[i]? = some o → ∀ m ∈ o, ∃ j, j < i ∧ (subs n)[j]? = some (o.filter fun k => decide (k ≠ m))
  | 0, i, o, h, m, hm => by
    have := List.mem_of_getElem? h
    rw [List.mem_singleton.mp this] at hm; cases hm
  | n + 1, i, o, h, m, hm => by
    change (subs n ++ (subs n).map (· ++ [n]))[i]? = some o at h
    show ∃ j, j < i ∧ (subs n ++ (subs n).map (· ++ [n]))[j]? = _
    rw [List.getElem?_append] at h
    by_cases hi : i < (subs n).length
    · rw [if_pos hi] at h
      obtain ⟨j, hj, e⟩ := sub_before n i o h m hm
      exact ⟨j, hj, by rw [List.getElem?_append, if_pos (by omega)]; exact e⟩
    · rw [if_neg hi, List.getElem?_map] at h
      obtain ⟨o', e1, rfl⟩ := Option.map_eq_some_iff.mp h
      have lt' := subs_lt n o' (List.mem_of_getElem? e1)
      have hL : 0 < (subs n).length := by rw [subs_len]; exact Nat.pow_pos (by decide)
      by_cases hmn : m = n
      · refine ⟨i - (subs n).length, by omega, ?_⟩
        have hs : i - (subs n).length < (subs n).length := (List.getElem?_eq_some_iff.mp e1).1
        rw [List.getElem?_append, if_pos hs, e1, List.filter_append]
        have f1 : (o'.filter fun k => decide (k ≠ m)) = o' := List.filter_eq_self.mpr fun x hx => decide_eq_true (by have := lt' x hx; omega)
        rw [f1, hmn]; simp
      · have hm' : m ∈ o' := by
          rcases List.mem_append.mp hm with h | h
          · exact h
          · exact absurd (List.mem_singleton.mp h) hmn
        obtain ⟨j, hj, e⟩ := sub_before n _ o' e1 m hm'
        refine ⟨(subs n).length + j, by omega, ?_⟩
        rw [List.getElem?_append, if_neg (by omega), Nat.add_sub_cancel_left, List.getElem?_map, e, List.filter_append]
        have : ([n].filter fun k => decide (k ≠ m)) = [n] := List.filter_eq_self.mpr fun x hx => decide_eq_true (by rw [List.mem_singleton.mp hx]; exact fun e => hmn e.symm)
        rw [this]; rfl
theorem subs_head : ∀ n, (subs n)[0]? = some []
  | 0 => rfl
  | n + 1 => by
    show (subs n ++ (subs n).map (· ++ [n]))[0]? = _
    rw [List.getElem?_append, if_pos (by rw [subs_len]; exact Nat.pow_pos (by decide))]
    exact subs_head n
theorem valV_subs (g : List Nat → V) (o : List Nat) : ∀ l : List (List Nat), o ∈ l → valV (l.map fun o => (kk o, g o)) (kk o) = some (g o)
  | [], h => nomatch h
  | x :: l, h => by
    by_cases e : x = o
    · rw [List.map_cons, valV_pos (by rw [e]), e]
    · rw [List.map_cons, valV_neg (fun h2 => e (kk_inj h2))]
      exact valV_subs g o l ((List.mem_cons.mp h).resolve_left fun h2 => e h2.symm)
theorem valV_no (g : List Nat → V) (o : List Nat) : ∀ l : List (List Nat), o ∉ l → valV (l.map fun o => (kk o, g o)) (kk o) = none
  | [], _ => rfl
  | x :: l, h => by
    rw [List.map_cons, valV_neg (fun h2 => h (by rw [kk_inj h2]; simp))]
    exact valV_no g o l fun h2 => h (List.mem_cons_of_mem _ h2)
theorem subs_nd : ∀ n, ∀ o ∈ subs n, o.Nodup
  | 0, o, h => by rw [List.mem_singleton.mp h]; exact List.nodup_nil
  | n + 1, o, h => by
    rcases List.mem_append.mp h with h | h
    · exact subs_nd n o h
    · obtain ⟨o', h', rfl⟩ := List.mem_map.mp h
      rw [List.nodup_append]
      refine ⟨subs_nd n o' h', by simp, fun x hx y hy e => ?_⟩
      have := subs_lt n o' h' x hx
      rw [List.mem_singleton.mp hy] at e
      omega
theorem filter_ne_len {o : List Nat} {m : Nat} (nd : o.Nodup) (h : m ∈ o) : (o.filter fun k => decide (k ≠ m)).length + 1 = o.length := by
  induction o with
  | nil => cases h
  | cons x o ih =>
    obtain ⟨h1, h2⟩ := List.nodup_cons.mp nd
    by_cases e : x = m
    · subst e
      have fs : (o.filter fun k => decide (k ≠ x)) = o := List.filter_eq_self.mpr fun y hy => decide_eq_true (fun (e : y = x) => h1 (by rw [← e]; exact hy))
      rw [List.filter_cons, if_neg (by simp), fs, List.length_cons]
    · rw [List.filter_cons, if_pos (decide_eq_true e), List.length_cons, List.length_cons, ih h2 ((List.mem_cons.mp h).resolve_left fun z => e z.symm)]
/-- the least of f over l (0 of none) -/
def leastL : List Int → Int
  | [] => 0
  | [x] => x
  | x :: l => min x (leastL l)
theorem leastL_spec : ∀ l : List Int, l ≠ [] → leastL l ∈ l ∧ ∀ y ∈ l, leastL l ≤ y
  | [], h => absurd rfl h
  | [x], _ => ⟨by simp [leastL], fun y hy => by rw [List.mem_singleton.mp hy]; exact Int.le_refl _⟩
  | x :: z :: l, _ => by
    obtain ⟨h1, h2⟩ := leastL_spec (z :: l) (by simp)
    show min x (leastL (z :: l)) ∈ _ ∧ ∀ y ∈ x :: z :: l, min x (leastL (z :: l)) ≤ y
    constructor
    · by_cases h : x ≤ leastL (z :: l)
      · rw [Int.min_eq_left h]; simp
      · rw [Int.min_eq_right (by omega)]; exact List.mem_cons_of_mem _ h1
    · intro y hy
      rcases List.mem_cons.mp hy with rfl | hy
      · exact Int.min_le_left ..
      · exact Int.le_trans (Int.min_le_right ..) (h2 y hy)
/-- the least price of the members of o, k steps deep -/
def best (f : Nat → Nat → Int) : Nat → List Nat → Int
  | 0, _ => 0
  | k + 1, o => leastL (o.map fun m => best f k (o.filter fun x => decide (x ≠ m)) + (o.map fun x => f x m).sum)
def tabK (n : Nat) (f : Nat → Nat → Int) : List (List Key × V) := (subs n).map fun o => (kk o, V.int (best f o.length o))
theorem best_step (f : Nat → Nat → Int) {o : List Nat} (nd : o.Nodup) (h : o ≠ []) : best f o.length o = leastL (o.map fun m => best f (o.filter fun k => decide (k ≠ m)).length (o.filter fun k => decide (k ≠ m)) + (o.map fun x => f x m).sum) := by
  cases hk : o.length with
  | zero => exact absurd (List.length_eq_zero_iff.mp hk) h
  | succ k =>
    show leastL _ = _
    congr 1
    refine List.map_congr_left fun m hm => ?_
    have := filter_ne_len nd hm
    rw [show (o.filter fun k => decide (k ≠ m)).length = k by omega]
/-- the table of the subsets: still to be proved (subset_table) -/
def spTable (C : Addr) : Sp := fun vs H Q _ => ∃ (n : Nat) (p t : Addr) (rs : List Addr) (tab : List (List Int)), vs = [.ref p] ∧ n ≤ 9 ∧ CostsAt C H p n t rs tab ∧ ∀ H' d, Same H H' → H d = none → H' d = some (.dT (tabK n (gT tab))) → Q (.ref d) H'
section
variable {P : Program} {w : World} {K : PySem.W.Frag} {mg : Str → Option Value} {base : Heap}
theorem ok_subset_table (T : Txt K mg) : FnOk P w K mg base CX0 3 T.f_subset_table T.fd_subset_table ["costs"] (spTable T.C_Costs) := by
  refine T.F_subset_table.ok sc_subset_table (fun vs H Q E h => ?_) (fun cdv A outer s H vs Q E hr h => ?_)
  · obtain ⟨n, p, t, rs, tab, rfl, _⟩ := h
    rfl
  · obtain ⟨n, p, t, rs, tab, rfl, hn, CA, q⟩ := h
    obtain ⟨dx, ob⟩ := CA.ob
    refine ⟨_, (pss_cons (ps_set (i := 1) sc_subset_table.nd rfl (by first | exact Or.inl rfl | exact Or.inr rfl) (pe_meth0 (pv 0) T.cl_Costs T.me_Costs_rows (ok_Costs_rows T) (hr.mono (by omega)) T.b_Costs_rows .nil pass0))
   (pss_cons (ps_set (i := 2) sc_subset_table.nd rfl (by first | exact Or.inl rfl | exact Or.inr rfl) (pe_disp1 (hu_of hr) (pe_tup pa_nil) pe_int))
   (pss_cons (ps_for PassesOwn.never rfl (dpi_list K (pe_call (ok_subsets T) (hr.mono (by omega)) (by rfl) T.g_subsets T.F_subsets.kp T.b_subsets .nil pass0 (pa_cons (pe_fld (pv 0) rfl) pa_nil))) (pg_name (i := 3) sc_subset_table.nd rfl (by first | exact Or.inl rfl | exact Or.inr rfl))
    (pss_one (ps_if (pt_cmpR (dNeD K hr.units) (pv 3) (pe_tup pa_nil) (nomark _))
     (pss_one (ps_dput (hu_of hr) (pv 2) (pv 3) (pe_callB (dMin1 K rfl) (by rfl) T.n_min (by decide +kernel) (pa_cons (pe_lc (own := [("last", 4)]) (g := gName 4) (tt := tYes) rfl sc_subset_table.nd  (dpi_tup K (pv 3)) (blkOk_by (own := [("last", 4)]) (N := ["costs", "rows", "table", "subset", "last"]) (sc := defScope s_subset_table) (by decide +kernel)) (fun _ _ _ _ _ => (pg_name (i := 4) sc_subset_table.nd rfl (by first | exact Or.inl rfl | exact Or.inr rfl))) (fun _ _ _ _ _ => pts_nil) (fun _ _ _ _ _ => (pe_call (ok_price_with_last T) (hr.mono (by omega)) (by rfl) T.g_price_with_last T.F_price_with_last.kp T.b_price_with_last .nil pass0 (pa_cons (pv 1) (pa_cons (pv 2) (pa_cons (pv 3) (pa_cons (pv 4) pa_nil))))))) pa_nil)) rfl))
     pss_nil)))
   (pss_one (ps_ret (pv 2)))))), ?_⟩
    walk_at "rd"
    refine rv_meth ob (cF_no _ _ (by decide +kernel) (by decide +kernel)) ?_
    walk_at "rd"
    refine ⟨p, n, t, rs, tab, rfl, by omega, CA, fun H2 u ps s2 eu pp => ?_⟩
    walk_at "rd"
    refine rd_disp1 fun d hd => ?_
    walk_at "rd"
    rename_i z hz
    refine ⟨hp_new hz upd_same, z, [], rfl, upd_same, ?_⟩
    have s3 : Same H2 (upd (upd (upd H2 d (.dT [])) z (.tup [])) d (.dT [([], .int 0)])) := fun b o e => (upd_ne (ne_of_none e hd)).trans (hp_new hz (hp_new hd e))
    have ed3 : (upd (upd (upd H2 d (.dT [])) z (.tup [])) d (.dT [([], .int 0)])) d = some (.dT [([], .int 0)]) := upd_same
    generalize (upd (upd (upd H2 d (.dT [])) z (.tup [])) d (.dT [([], .int 0)])) = H3 at s3 ed3
    have CA3 := (CA.same s2).same s3
    obtain ⟨dx3, ob3⟩ := CA3.ob
    have TT3 : TupTab H3 u tab := ⟨ps, s3 _ _ eu, Paired.mapP pp fun _ _ h => s3 _ _ h⟩
    walk_at "rd"
    refine rv_fld ob3 T.cl_Costs T.na_Costs_size (cF_size _ _) ?_
    walk_at "rd"
    refine ⟨n, rfl, by omega, fun H4 D qs s4 eD pq => ?_⟩
    walk_at "rd"
    have tk0 : ((subs n).take 1).map (fun o => (kk o, V.int (best (gT tab) o.length o))) = [([], V.int 0)] := by
      have h0 := subs_head n
      cases hs : subs n with
      | nil => rw [hs] at h0; cases h0
      | cons x l => rw [hs] at h0; cases h0; rfl
    have ed4 := s4 _ _ ed3
    refine for_list (K := K) (a := D) (xs := qs.map V.ref) (fun i σ H' => ∃ (x3 : Option V), σ = [some (.ref p), some (.ref u), some (.ref d), x3, none] ∧ (∀ b o, b ≠ d → H4 b = some o → H' b = some o) ∧ H' d = some (.dT (((subs n).take (max 1 i)).map fun o => (kk o, V.int (best (gT tab) o.length o)))))
      ⟨_, rfl, fun _ _ _ e => e, by show H4 d = some (.dT (((subs n).take 1).map _)); rw [tk0]; exact ed4⟩ (fun i σ H' _ h => by
        obtain ⟨_, _, s, _⟩ := h
        exact SqL.of (s _ _ (fun e => by rw [e, ed4] at eD; cases eD) eD)) ?_ ?_
    · rintro i x σ H5 hi ⟨x3, rfl, s5, ed5⟩
      rw [List.getElem?_map] at hi
      obtain ⟨a, ea, rfl⟩ := Option.map_eq_some_iff.mp hi
      obtain ⟨o, eo, ha⟩ := Paired.get1 pq ea
      have hid : ∀ {b : Addr} {l : List V}, H4 b = some (.tup l) → b ≠ d := fun h e => by rw [e, ed4] at h; cases h
      have ha5 := s5 _ _ (hid ha) ha
      have nd := subs_nd n o (List.mem_of_getElem? eo)
      have lo := subs_le n o (List.mem_of_getElem? eo)
      have TT4 := TT3.same s4
      have TT5 : TupTab H5 u tab := by
        obtain ⟨ps, e, p⟩ := TT4
        exact ⟨ps, s5 _ _ (hid e) e, Paired.mapP p fun _ _ h => s5 _ _ (hid h) h⟩
      walk_at "rd"
      rename_i z hz
      refine rv_neK (tupK (intK K)) (x := o.map fun k : Nat => (k : Int)) (y := []) ⟨a, natsV o, rfl, SqT.of (hp_new hz ha5), by rw [natsV_eq]; exact intsK _ _⟩ ⟨z, [], rfl, SqT.of upd_same, .nil⟩ ?_
      have h0 := subs_head n
      by_cases ho : o = []
      · have i0 : i = 0 := by
          by_cases h : i = 0
          · exact h
          · exact absurd ((List.getElem?_inj (by have := (List.getElem?_eq_some_iff.mp h0).1; exact this) (subs_nodup n)).mp (h0.trans (by rw [eo, ho]))).symm h
        subst ho i0
        rw [show (!decide (([] : List Nat).map (fun k : Nat => (k : Int)) = [])) = false from by simp]
        walk_at "rd"
        exact ⟨_, rfl, fun b o nb e => hp_new hz (s5 b o nb e), hp_new hz ed5⟩
      · have dn : (!decide ((o.map fun k : Nat => (k : Int)) = [])) = true := by simp [ho]
        have i1 : 1 ≤ i := by
          by_cases h : i = 0
          · subst h
            rw [eo] at h0; cases h0
            exact absurd rfl ho
          · omega
        rw [Nat.max_eq_right i1] at ed5
        rw [dn]
        walk_at "rd"
        · refine rd_lc ?_
          have az := hp_new hz ha5 (o := .tup [])
          walk_at "rd"
          refine lc_pureF (walk_tup (K := K) (a := a) (xs := natsV o)) (fun _ => true) (fun j => .int (best (gT tab) (o.filter fun k => decide (k ≠ o.getD j 0)).length (o.filter fun k => decide (k ≠ o.getD j 0)) + (o.map fun x => gT tab x (o.getD j 0)).sum)) (by rw [natsV_len]; omega) (fun H' s => SqT.of (s _ _ az)) same_at ?_ ?_
          · rintro j x' H' H7 Nx E hj s7 s7' ⟨rfl, hx⟩ hN _
            rw [natsV_len] at hj
            rw [natsV_get, List.getElem?_eq_getElem hj] at hx
            cases hx
            have gj : o.getD j 0 = o[j] := getD_of (List.getElem?_eq_getElem hj)
            rw [gj] at hN
            have hm := List.getElem_mem hj
            obtain ⟨j2, hj2, e2⟩ := sub_before n i o eo _ hm
            have sl := subs_lt n o (List.mem_of_getElem? eo)
            walk_at "rd"
            refine ⟨n, u, tab, d, _, a, o, o[j], _, rfl, by omega, (TT5.same (same_upd hz)).same s7, CA.sz, CA.sq, s7 _ _ (hp_new hz ed5), s7 _ _ az, by omega, sl, sl _ hm, valV_subs (fun o => V.int (best (gT tab) o.length o)) _ _ (List.mem_of_getElem? (by rw [List.getElem?_take, if_pos hj2]; exact e2)), fun H8 s8 => ?_⟩
            exact hN rfl _ s8
          · intro D2 H7 hD2 s7 e7
            have e8 : H7 D2 = some (.lst ((o.map fun m => best (gT tab) (o.filter fun k => decide (k ≠ m)).length (o.filter fun k => decide (k ≠ m)) + (o.map fun x => gT tab x m).sum).map V.int)) := by
              have := range_filter_map o 0 (fun _ => true) (fun m => V.int (best (gT tab) (o.filter fun k => decide (k ≠ m)).length (o.filter fun k => decide (k ≠ m)) + (o.map fun x => gT tab x m).sum))
              rw [ftrue, ftrue] at this
              rw [e7, natsV_len, ftrue, this, List.map_map]; rfl
            have ne0 : (o.map fun m => best (gT tab) (o.filter fun k => decide (k ≠ m)).length (o.filter fun k => decide (k ≠ m)) + (o.map fun x => gT tab x m).sum) ≠ [] := by simp [ho]
            have bs := best_step (gT tab) nd ho
            obtain ⟨l1, l2⟩ := leastL_spec _ ne0
            rw [← bs] at l1 l2
            generalize (o.map fun m => best (gT tab) (o.filter fun k => decide (k ≠ m)).length (o.filter fun k => decide (k ≠ m)) + (o.map fun x => gT tab x m).sum) = ns at *
            walk_at "rd"
            refine ⟨D2, ns, rfl, SqL.of e8, List.length_pos_iff.mpr ne0, fun mm hm hle => ?_⟩
            have em : mm = best (gT tab) o.length o := Int.le_antisymm (hle _ l1) (l2 _ hm)
            subst em
            have ed7 := s7 _ _ (hp_new hz ed5 (o := .tup []))
            have ha7 := s7 _ _ az
            walk_at "rd"
            have hl : (((subs n).take i).map fun o => (kk o, V.int (best (gT tab) o.length o))).length ≤ 1000 := by
              rw [List.length_map, List.length_take, subs_len]
              have : 2 ^ n ≤ 2 ^ 9 := Nat.pow_le_pow_right (by decide) hn
              omega
            refine rv_dput (DPut.t ed7 (by rw [ha7, kk_nats]) (sz4' (by omega))) ?_
            have nw : o ∉ (subs n).take i := fun h => by
              obtain ⟨j, hj, e⟩ := List.mem_iff_getElem.mp h
              rw [List.length_take] at hj
              rw [List.getElem_take] at e
              have := (List.getElem?_inj (by omega) (subs_nodup n)).mp (((List.getElem?_eq_getElem (by omega)).trans (congrArg some e)).trans eo.symm)
              omega
            rw [putK_new _ (valV_no (fun o => V.int (best (gT tab) o.length o)) o _ nw)]
            refine ⟨_, rfl, fun b o' nb e => (upd_ne nb).trans (s7 _ _ (hp_new hz (s5 b o' nb e))), ?_⟩
            rw [upd_same, Nat.max_eq_right (by omega : 1 ≤ i + 1), List.take_succ, eo, List.map_append]
            rfl
    · rintro σ H5 ⟨x3, rfl, s5, ed5⟩
      have le : (qs.map V.ref).length = (subs n).length := by rw [List.length_map, Paired.len pq]
      have lp : 0 < (subs n).length := by rw [subs_len]; exact Nat.pow_pos (by decide)
      rw [le, Nat.max_eq_right lp, List.take_length] at ed5
      walk_at "rd"
      refine q H5 d (fun b o e => s5 _ _ (fun h => ?_) (s4 _ _ (s3 _ _ (s2 _ _ e)))) (s2.free hd) ed5
      rw [h] at e
      rw [s2 _ _ e] at hd; cases hd
end
end K29
namespace K29
open PySem PySem.Spec PyProof.Rows L2 D0
theorem sum_permI {l l' : List Int} (h : l.Perm l') : l.sum = l'.sum := by
  induction h with
  | nil => rfl
  | cons x p ih => rw [List.sum_cons, List.sum_cons, ih]
  | swap x y l => simp only [List.sum_cons]; omega
  | trans _ _ h1 h2 => rw [h1, h2]
theorem perm_out {o : List Nat} {m : Nat} (nd : o.Nodup) (h : m ∈ o) : o.Perm (m :: o.filter fun k => decide (k ≠ m)) := by
  have e : o.erase m = o.filter fun k => decide (k ≠ m) := by
    rw [nd.erase_eq_filter]
    refine List.filter_congr fun x _ => ?_
    by_cases z : x = m
    · subst z; simp
    · simp [z]
  rw [← e]
  exact List.perm_cons_erase h
theorem nd_out {o : List Nat} {m : Nat} (nd : o.Nodup) : (o.filter fun k => decide (k ≠ m)).Nodup := nd.filter _
theorem sum_out {o : List Nat} {m : Nat} {g : Nat → Int} (nd : o.Nodup) (h : m ∈ o) (g0 : g m = 0) {p : List Nat} (hp : p.Perm (o.filter fun k => decide (k ≠ m))) : (o.map g).sum = (p.map g).sum := by
  rw [sum_permI ((perm_out nd h).map g), List.map_cons, List.sum_cons, g0, Int.zero_add]
  exact (sum_permI (hp.map g)).symm
/-- the least price, by the member that stands first -/
def dueB (f : Nat → Nat → Int) : Nat → List Nat → Int
  | 0, _ => 0
  | k + 1, o => leastL (o.map fun v => dueB f k (o.filter fun x => decide (x ≠ v)) + (o.map fun u => f v u).sum)
/-- the price of an order -/
def pr (f : Nat → Nat → Int) : List Nat → Int
  | [] => 0
  | v :: p => (p.map (f v)).sum + pr f p
theorem pr_snoc (f : Nat → Nat → Int) (m : Nat) : ∀ p : List Nat, pr f (p ++ [m]) = pr f p + (p.map fun x => f x m).sum
  | [] => rfl
  | v :: p => by
    show ((p ++ [m]).map (f v)).sum + pr f (p ++ [m]) = ((p.map (f v)).sum + pr f p) + ((v :: p).map fun x => f x m).sum
    rw [pr_snoc f m p, List.map_append, List.sum_append, List.map_cons, List.sum_cons]
    simp
    omega
theorem best_min (f : Nat → Nat → Int) : ∀ (k : Nat) (o : List Nat), o.Nodup → o.length = k → (∀ v ∈ o, f v v = 0) → (∀ p : List Nat, p.Perm o → best f k o ≤ pr f p) ∧ ∃ p : List Nat, p.Perm o ∧ pr f p = best f k o
  | 0, o, nd, l, z => by
    have := List.length_eq_zero_iff.mp l
    subst this
    exact ⟨fun p hp => by rw [hp.eq_nil]; exact Int.le_refl _, [], .refl _, rfl⟩
  | k + 1, o, nd, l, z => by
    have ne : o ≠ [] := fun e => by rw [e] at l; cases l
    obtain ⟨l1, l2⟩ := leastL_spec (o.map fun m => best f k (o.filter fun x => decide (x ≠ m)) + (o.map fun x => f x m).sum) (by simp [ne])
    have rec_ := fun m (hm : m ∈ o) => best_min f k (o.filter fun x => decide (x ≠ m)) (nd_out nd) (by have := filter_ne_len nd hm; omega) fun v hv => z v (List.mem_filter.mp hv).1
    constructor
    · intro p hp
      have pn : p ≠ [] := fun e => by rw [e] at hp; exact ne hp.symm.eq_nil
      obtain ⟨p', m, rfl⟩ : ∃ p' m, p = p' ++ [m] := ⟨p.dropLast, p.getLast pn, (List.dropLast_concat_getLast pn).symm⟩
      have hm : m ∈ o := hp.subset (by simp)
      have hp' : p'.Perm (o.filter fun x => decide (x ≠ m)) := by
        have h1 : (p' ++ [m]).Perm (m :: p') := by
          have := List.perm_append_comm (l₁ := p') (l₂ := [m]); exact this
        exact ((h1.symm.trans hp).trans (perm_out nd hm)).cons_inv
      have h1 := (rec_ m hm).1 p' hp'
      have h2 := l2 _ (List.mem_map_of_mem (f := fun m => best f k (o.filter fun x => decide (x ≠ m)) + (o.map fun x => f x m).sum) hm)
      have h3 := sum_out (g := fun x => f x m) nd hm (z m hm) hp'
      rw [pr_snoc]
      show leastL _ ≤ _
      try simp only at h2
      try simp only at h3
      omega
    · obtain ⟨m, hm, e⟩ := List.mem_map.mp l1
      obtain ⟨p', hp', e'⟩ := (rec_ m hm).2
      refine ⟨p' ++ [m], ?_, ?_⟩
      · have h1 : (p' ++ [m]).Perm (m :: p') := by
          have := List.perm_append_comm (l₁ := p') (l₂ := [m]); exact this
        exact h1.trans ((hp'.cons m).trans (perm_out nd hm).symm)
      · rw [pr_snoc, e', ← sum_out (g := fun x => f x m) nd hm (z m hm) hp']
        exact e
theorem due_min (f : Nat → Nat → Int) : ∀ (k : Nat) (o : List Nat), o.Nodup → o.length = k → (∀ v ∈ o, f v v = 0) → (∀ p : List Nat, p.Perm o → dueB f k o ≤ pr f p) ∧ ∃ p : List Nat, p.Perm o ∧ pr f p = dueB f k o
  | 0, o, nd, l, z => by
    have := List.length_eq_zero_iff.mp l
    subst this
    exact ⟨fun p hp => by rw [hp.eq_nil]; exact Int.le_refl _, [], .refl _, rfl⟩
  | k + 1, o, nd, l, z => by
    have ne : o ≠ [] := fun e => by rw [e] at l; cases l
    obtain ⟨l1, l2⟩ := leastL_spec (o.map fun v => dueB f k (o.filter fun x => decide (x ≠ v)) + (o.map fun u => f v u).sum) (by simp [ne])
    have rec_ := fun m (hm : m ∈ o) => due_min f k (o.filter fun x => decide (x ≠ m)) (nd_out nd) (by have := filter_ne_len nd hm; omega) fun v hv => z v (List.mem_filter.mp hv).1
    constructor
    · intro p hp
      cases p with
      | nil => exact absurd hp.symm.eq_nil ne
      | cons v p =>
        have hm : v ∈ o := hp.subset (by simp)
        have hp' : p.Perm (o.filter fun x => decide (x ≠ v)) := (hp.trans (perm_out nd hm)).cons_inv
        have h1 := (rec_ v hm).1 p hp'
        have h2 := l2 _ (List.mem_map_of_mem (f := fun v => dueB f k (o.filter fun x => decide (x ≠ v)) + (o.map fun u => f v u).sum) hm)
        have h3 : (o.map fun u => f v u).sum = (p.map (f v)).sum := sum_out (g := f v) nd hm (z v hm) hp'
        show leastL _ ≤ (p.map (f v)).sum + pr f p
        try simp only at h2
        try simp only at h3
        omega
    · obtain ⟨m, hm, e⟩ := List.mem_map.mp l1
      obtain ⟨p', hp', e'⟩ := (rec_ m hm).2
      refine ⟨m :: p', (hp'.cons m).trans (perm_out nd hm).symm, ?_⟩
      show (p'.map (f m)).sum + pr f p' = _
      rw [e', ← sum_out (g := f m) nd hm (z m hm) hp', Int.add_comm]
      exact e
theorem due_best (f : Nat → Nat → Int) {o : List Nat} (nd : o.Nodup) (z : ∀ v ∈ o, f v v = 0) : dueB f o.length o = best f o.length o := by
  obtain ⟨a1, p, hp, ep⟩ := best_min f o.length o nd rfl z
  obtain ⟨b1, q, hq, eq⟩ := due_min f o.length o nd rfl z
  have := a1 q hq
  have := b1 p hp
  omega
theorem due_step (f : Nat → Nat → Int) {o : List Nat} (nd : o.Nodup) (h : o ≠ []) : dueB f o.length o = leastL (o.map fun v => dueB f (o.filter fun k => decide (k ≠ v)).length (o.filter fun k => decide (k ≠ v)) + (o.map fun u => f v u).sum) := by
  cases hk : o.length with
  | zero => exact absurd (List.length_eq_zero_iff.mp hk) h
  | succ k =>
    show leastL _ = _
    congr 1
    refine List.map_congr_left fun m hm => ?_
    have := filter_ne_len nd hm
    rw [show (o.filter fun k => decide (k ≠ m)).length = k by omega]
def Fst (f : Nat → Nat → Int) (o : List Nat) (v : Nat) : Int := best f (o.filter fun k => decide (k ≠ v)).length (o.filter fun k => decide (k ≠ v)) + (o.map fun u => f v u).sum
theorem best_fst (f : Nat → Nat → Int) {o : List Nat} (nd : o.Nodup) (z : ∀ v ∈ o, f v v = 0) (h : o ≠ []) : (∀ v ∈ o, best f o.length o ≤ Fst f o v) ∧ ∃ v ∈ o, Fst f o v = best f o.length o := by
  have e : ∀ v ∈ o, dueB f (o.filter fun k => decide (k ≠ v)).length (o.filter fun k => decide (k ≠ v)) + (o.map fun u => f v u).sum = Fst f o v := fun v _ => by
    unfold Fst
    rw [due_best f (nd_out nd) fun x hx => z x (List.mem_filter.mp hx).1]
  have d := due_step f nd h
  rw [due_best f nd z, List.map_congr_left e] at d
  obtain ⟨l1, l2⟩ := leastL_spec (o.map (Fst f o)) (by simp [h])
  rw [← d] at l1 l2
  refine ⟨fun v hv => l2 _ (List.mem_map_of_mem hv), ?_⟩
  obtain ⟨v, hv, e⟩ := List.mem_map.mp l1
  exact ⟨v, hv, e⟩
def firsts (f : Nat → Nat → Int) (o : List Nat) : List Nat := o.filter fun v => decide (Fst f o v = best f o.length o)
def greedy (f : Nat → Nat → Int) : Nat → List Nat → List Nat
  | 0, _ => []
  | k + 1, o => (firsts f o).headD 0 :: greedy f k (o.filter fun x => decide (x ≠ (firsts f o).headD 0))
theorem first_of (f : Nat → Nat → Int) {o : List Nat} (nd : o.Nodup) (z : ∀ v ∈ o, f v v = 0) (h : o ≠ []) : ∃ v rest, firsts f o = v :: rest ∧ v ∈ o ∧ Fst f o v = best f o.length o := by
  obtain ⟨_, v, hv, e⟩ := best_fst f nd z h
  have hm : v ∈ firsts f o := List.mem_filter.mpr ⟨hv, decide_eq_true e⟩
  cases hf : firsts f o with
  | nil => rw [hf] at hm; cases hm
  | cons x rest =>
    have hx : x ∈ firsts f o := by rw [hf]; simp
    obtain ⟨h1, h2⟩ := List.mem_filter.mp hx
    exact ⟨x, rest, rfl, h1, of_decide_eq_true h2⟩
theorem greedy_perm (f : Nat → Nat → Int) : ∀ (k : Nat) (o : List Nat), o.Nodup → o.length = k → (∀ v ∈ o, f v v = 0) → (greedy f k o).Perm o ∧ pr f (greedy f k o) = best f k o
  | 0, o, nd, l, z => by
    have := List.length_eq_zero_iff.mp l
    subst this
    exact ⟨.refl _, rfl⟩
  | k + 1, o, nd, l, z => by
    have ne : o ≠ [] := fun e => by rw [e] at l; cases l
    obtain ⟨v, rest, ef, hv, e⟩ := first_of f nd z ne
    show ((firsts f o).headD 0 :: greedy f k (o.filter fun x => decide (x ≠ (firsts f o).headD 0))).Perm o ∧ pr f ((firsts f o).headD 0 :: greedy f k (o.filter fun x => decide (x ≠ (firsts f o).headD 0))) = _
    rw [ef, List.headD_cons]
    have fl := filter_ne_len nd hv
    obtain ⟨p1, p2⟩ := greedy_perm f k (o.filter fun x => decide (x ≠ v)) (nd_out nd) (by omega) fun x hx => z x (List.mem_filter.mp hx).1
    refine ⟨(p1.cons v).trans (perm_out nd hv).symm, ?_⟩
    show ((greedy f k (o.filter fun x => decide (x ≠ v))).map (f v)).sum + pr f _ = _
    have s := sum_out (g := f v) nd hv (z v hv) p1
    rw [p2, ← s, ← l, ← e]
    unfold Fst
    rw [show (o.filter fun k => decide (k ≠ v)).length = k from by omega, Int.add_comm]
def lexL (a b : List Nat) : Prop := ∃ pre x y s t, a = pre ++ x :: s ∧ b = pre ++ y :: t ∧ x < y
theorem lexL.cons {a b : List Nat} (h : lexL a b) (v : Nat) : lexL (v :: a) (v :: b) := by
  obtain ⟨pre, x, y, s, t, rfl, rfl, q⟩ := h
  exact ⟨v :: pre, x, y, s, t, rfl, rfl, q⟩
theorem lexL.uncons {a b : List Nat} {u v : Nat} (h : lexL (u :: a) (v :: b)) : u < v ∨ (u = v ∧ lexL a b) := by
  obtain ⟨pre, x, y, s, t, e1, e2, q⟩ := h
  cases pre with
  | nil =>
    injection e1 with e1 _
    injection e2 with e2 _
    exact .inl (by omega)
  | cons p pre =>
    injection e1 with e1 e3
    injection e2 with e2 e4
    exact .inr ⟨by omega, pre, x, y, s, t, e3, e4, q⟩
theorem lexL.asymm : ∀ {a b : List Nat}, lexL a b → ¬ lexL b a
  | [], _, ⟨pre, _, _, _, _, e, _, _⟩, _ => by cases pre <;> cases e
  | _ :: _, [], ⟨pre, _, _, _, _, _, e, _⟩, _ => by cases pre <;> cases e
  | u :: a, v :: b, h1, h2 => by
    rcases h1.uncons with q1 | ⟨e1, q1⟩ <;> rcases h2.uncons with q2 | ⟨e2, q2⟩
    · omega
    · omega
    · omega
    · exact q1.asymm q2
theorem lexL.app {a b : List Nat} (h : lexL a b) (c d : List Nat) : lexL (a ++ c) (b ++ d) := by
  obtain ⟨pre, x, y, s, t, rfl, rfl, q⟩ := h
  exact ⟨pre, x, y, s ++ c, t ++ d, by simp, by simp, q⟩
theorem greedy_lex (f : Nat → Nat → Int) : ∀ (k : Nat) (o : List Nat), o.Pairwise (· < ·) → o.length = k → (∀ v ∈ o, f v v = 0) → ∀ p : List Nat, p.Perm o → pr f p = best f k o → p = greedy f k o ∨ lexL (greedy f k o) p
  | 0, o, st, l, z, p, hp, _ => by
    have := List.length_eq_zero_iff.mp l
    subst this
    exact .inl hp.eq_nil
  | k + 1, o, st, l, z, p, hp, ep => by
    have nd : o.Nodup := st.imp fun h => Nat.ne_of_lt h
    have ne : o ≠ [] := fun e => by rw [e] at l; cases l
    obtain ⟨v, rest, ef, hv, e⟩ := first_of f nd z ne
    show p = (firsts f o).headD 0 :: greedy f k (o.filter fun x => decide (x ≠ (firsts f o).headD 0)) ∨ lexL ((firsts f o).headD 0 :: greedy f k (o.filter fun x => decide (x ≠ (firsts f o).headD 0))) p
    rw [ef, List.headD_cons]
    cases p with
    | nil => exact absurd hp.symm.eq_nil ne
    | cons x p =>
      have hx : x ∈ o := hp.subset (by simp)
      have hp' : p.Perm (o.filter fun y => decide (y ≠ x)) := (hp.trans (perm_out nd hx)).cons_inv
      have fl := filter_ne_len nd hx
      have zx : ∀ y ∈ o.filter (fun y => decide (y ≠ x)), f y y = 0 := fun y hy => z y (List.mem_filter.mp hy).1
      have m1 := (best_min f k (o.filter fun y => decide (y ≠ x)) (nd_out nd) (by omega) zx).1 p hp'
      have s := sum_out (g := f x) nd hx (z x hx) hp'
      have ep' : (p.map (f x)).sum + pr f p = best f (k + 1) o := ep
      have m2 := (best_fst f nd z ne).1 x hx
      have m3 : Fst f o x = best f k (o.filter fun y => decide (y ≠ x)) + (o.map (f x)).sum := by
        unfold Fst
        rw [show (o.filter fun k => decide (k ≠ x)).length = k from by omega]
      rw [l] at m2
      have ex : Fst f o x = best f o.length o := by rw [l]; omega
      have hm : x ∈ firsts f o := List.mem_filter.mpr ⟨hx, decide_eq_true ex⟩
      rw [ef] at hm
      have sf : (v :: rest).Pairwise (· < ·) := by rw [← ef]; exact st.filter _
      rcases List.mem_cons.mp hm with rfl | hm
      · have ep2 : pr f p = best f k (o.filter fun y => decide (y ≠ x)) := by omega
        rcases greedy_lex f k _ (st.filter _) (by omega) zx p hp' ep2 with q | q
        · exact .inl (by rw [q])
        · exact .inr (q.cons x)
      · exact .inr ⟨[], v, x, _, _, rfl, rfl, (List.pairwise_cons.mp sf).1 x hm⟩
def ordsK (n : Nat) : Nat → List (List Nat)
  | 0 => [[]]
  | k + 1 => (ordsK n k).flatMap fun o => ((List.range n).filter fun v => decide (v ∉ o)).map fun v => o ++ [v]
theorem ords_mem (n : Nat) : ∀ (k : Nat) (o : List Nat), o ∈ ordsK n k ↔ o.length = k ∧ o.Nodup ∧ ∀ x ∈ o, x < n
  | 0, o => by
    show o ∈ [[]] ↔ _
    rw [List.mem_singleton]
    constructor
    · rintro rfl; exact ⟨rfl, List.nodup_nil, fun _ h => nomatch h⟩
    · rintro ⟨h, _⟩; exact List.length_eq_zero_iff.mp h
  | k + 1, o => by
    show o ∈ (ordsK n k).flatMap _ ↔ _
    rw [List.mem_flatMap]
    constructor
    · rintro ⟨p, hp, h⟩
      obtain ⟨v, hv, rfl⟩ := List.mem_map.mp h
      obtain ⟨h1, h2⟩ := List.mem_filter.mp hv
      obtain ⟨p1, p2, p3⟩ := (ords_mem n k p).mp hp
      have h2 := of_decide_eq_true h2
      refine ⟨by rw [List.length_append, p1]; rfl, ?_, fun x hx => ?_⟩
      · exact List.nodup_append.mpr ⟨p2, by simp, fun x hx y hy e => h2 (by rw [← List.mem_singleton.mp hy, ← e]; exact hx)⟩
      · rcases List.mem_append.mp hx with hx | hx
        · exact p3 x hx
        · rw [List.mem_singleton.mp hx]; exact List.mem_range.mp h1
    · rintro ⟨l, nd, lt⟩
      have ne : o ≠ [] := fun e => by rw [e] at l; cases l
      have e := List.dropLast_concat_getLast ne
      rw [← e] at nd
      obtain ⟨n1, _, n3⟩ := List.nodup_append.mp nd
      refine ⟨o.dropLast, (ords_mem n k _).mpr ⟨by rw [List.length_dropLast, l]; rfl, n1, fun x hx => lt x (List.dropLast_subset _ hx)⟩, List.mem_map.mpr ⟨o.getLast ne, List.mem_filter.mpr ⟨List.mem_range.mpr (lt _ (List.getLast_mem ne)), decide_eq_true fun hm => n3 _ hm _ (by simp) rfl⟩, e⟩⟩
theorem ords_lex (n : Nat) : ∀ k : Nat, (ordsK n k).Pairwise lexL
  | 0 => List.pairwise_singleton _ _
  | k + 1 => by
    show ((ordsK n k).flatMap _).Pairwise lexL
    refine List.pairwise_flatMap.mpr ⟨fun o _ => ?_, (ords_lex n k).imp fun {a b} h x hx y hy => ?_⟩
    · exact List.pairwise_map.mpr ((List.pairwise_lt_range.filter _).imp fun {u v} h => ⟨o, u, v, [], [], rfl, rfl, h⟩)
    · obtain ⟨u, _, rfl⟩ := List.mem_map.mp hx
      obtain ⟨v, _, rfl⟩ := List.mem_map.mp hy
      exact h.app _ _
theorem perm_range {n : Nat} {o : List Nat} (l : o.length = n) (nd : o.Nodup) (lt : ∀ x ∈ o, x < n) : o.Perm (List.range n) := by
  refine (List.perm_ext_iff_of_nodup nd List.nodup_range).mpr fun a => ⟨fun h => List.mem_range.mpr (lt a h), fun h => ?_⟩
  by_cases ha : a ∈ o
  · exact ha
  · have := pigeon n (a :: o) (List.nodup_cons.mpr ⟨ha, nd⟩) fun x hx => by
      rcases List.mem_cons.mp hx with rfl | hx
      · exact List.mem_range.mp h
      · exact lt x hx
    rw [List.length_cons, l] at this
    omega
/-- the first one of the least price is the one made member by member -/
theorem first_greedy (f : Nat → Nat → Int) {n i : Nat} {c : List Nat} (z : ∀ v, v < n → f v v = 0) (ec : (ordsK n n)[i]? = some c) (least : ∀ y ∈ ordsK n n, pr f c ≤ pr f y) (before : ∀ j y, j < i → (ordsK n n)[j]? = some y → pr f c < pr f y) : c = greedy f n (List.range n) ∧ pr f c = best f n (List.range n) := by
  have zr : ∀ v ∈ List.range n, f v v = 0 := fun v hv => z v (List.mem_range.mp hv)
  have ln : (List.range n).length = n := List.length_range
  obtain ⟨gp, ge⟩ := greedy_perm f n (List.range n) List.nodup_range ln zr
  have gm : greedy f n (List.range n) ∈ ordsK n n := (ords_mem n n _).mpr ⟨by rw [gp.length_eq, ln], gp.nodup_iff.mpr List.nodup_range, fun x hx => List.mem_range.mp (gp.subset hx)⟩
  obtain ⟨c1, c2, c3⟩ := (ords_mem n n c).mp (List.mem_of_getElem? ec)
  have cp := perm_range c1 c2 c3
  have b1 := (best_min f n (List.range n) List.nodup_range ln zr).1 c cp
  have b2 := least _ gm
  have ep : pr f c = best f n (List.range n) := by omega
  refine ⟨?_, ep⟩
  rcases greedy_lex f n (List.range n) List.pairwise_lt_range ln zr c cp ep with q | q
  · exact q
  · exfalso
    obtain ⟨j, hj, ej⟩ := List.mem_iff_getElem.mp gm
    have ej' : (ordsK n n)[j]? = some (greedy f n (List.range n)) := by rw [List.getElem?_eq_getElem hj, ej]
    have hi := (List.getElem?_eq_some_iff.mp ec).1
    have ei := (List.getElem?_eq_some_iff.mp ec).2
    rcases Nat.lt_trichotomy j i with h | h | h
    · have := before j _ h ej'
      omega
    · subst h
      rw [ej'] at ec
      cases ec
      exact q.asymm q
    · have := List.pairwise_iff_getElem.mp (ords_lex n n) i j hi hj h
      rw [ei, ej] at this
      exact q.asymm this
end K29
namespace K29
open PySem PySem.Spec PyProof.Rows L2 D0
local macro_rules | `(tactic| walk_at "neB") => `(tactic| with_reducible first | assumption | (apply Ne.symm; assumption) | (refine' BagAt.ne ?x ?h; (case h => assumption); (case x => assumption)))
local macro_rules | `(tactic| walk_at "hq") => `(tactic| with_reducible first | assumption | exact upd_same | ((first | (refine' hp_new ?nn ?hq; (case nn => assumption)) | (refine' Off.get ?f ?ne ?hq; (case f => assumption); (case ne => walk_at "neB"))); (case hq => walk_at "hq")))
local macro_rules | `(tactic| walk_at "neA") => `(tactic| with_reducible first | (refine' BagAt.ne ?x ?h; (case h => assumption); (case x => assumption)) | (refine' ne_of_none ?x ?h; (case h => assumption); (case x => walk_at "hq")))
local macro_rules | `(tactic| walk_at "ne") => `(tactic| with_reducible first | assumption | (apply Ne.symm; assumption) | walk_at "neA" | (apply Ne.symm; walk_at "neA"))
local macro_rules | `(tactic| walk_at "off") => `(tactic| with_reducible repeat' (first | assumption | exact Off.refl _ _ | apply Off.set | (refine' Off.new ?_ ?h; (case h => assumption)) | (refine' Off.trans ?_ ?f; (case f => assumption))))
local macro_rules | `(tactic| walk_at "hp") => `(tactic| with_reducible first | assumption | exact upd_same | ((first | (refine' hp_new ?nn ?hp; (case nn => assumption)) | (refine' hp_set ?ne ?hp; (case ne => walk_at "ne")) | (refine' Off.get ?f ?ne ?hp; (case f => assumption); (case ne => walk_at "ne"))); (case hp => walk_at "hp")))
local macro_rules | `(tactic| walk_at "sq") => `(tactic| with_reducible first | assumption | (refine' SqL.of ?hh; (case hh => walk_at "hp")) | ((first | (refine' sq_new ?nn ?sq; (case nn => assumption)) | (refine' sq_set ?ne ?sq; (case ne => walk_at "ne")) | (refine' Off.seq ?f ?ne ?sq; (case f => assumption); (case ne => walk_at "ne"))); (case sq => walk_at "sq")))
local macro_rules | `(tactic| walk_at "sqt") => `(tactic| with_reducible first | assumption | (refine' SqT.of ?hh; (case hh => walk_at "hp")) | ((first | (refine' sqt_new ?nn ?sq; (case nn => assumption)) | (refine' sqt_set ?ne ?sq; (case ne => walk_at "ne")) | (refine' Off.seqT ?f ?ne ?sq; (case f => assumption); (case ne => walk_at "ne"))); (case sq => walk_at "sqt")))
/- straight-line steps of a reading -/
local macro_rules | `(tactic| walk_at "at") => `(tactic| first | assumption | rfl | exact atI_nat (j := 0) rfl | exact atI_nat (j := 1) rfl | exact atI_nat (j := 2) rfl | exact at_ints (by omega) (by omega))
local macro_rules | `(tactic| walk_at "sz") => `(tactic| first | assumption | decide | exact sz4 (by omega) | exact sz4' (by omega) | (simp only [List.length_map, List.length_append, List.length_cons, List.length_nil, List.length_range, List.length_replicate]; first | exact sz4 (by omega) | exact sz4' (by omega) | omega))
local macro_rules | `(tactic| walk_at "mul") => `(tactic| first | exact .inr ⟨by decide, by decide⟩ | exact mul_fm (by decide) (by decide) | exact .inl ⟨by omega, by omega⟩ | exact .inr ⟨by omega, by omega⟩)
local macro_rules | `(tactic| walk_at "div") => `(tactic| with_reducible first | exact div97 | exact div3 | exact div2 | exact div_m (by assumption) (by assumption))
local macro_rules | `(tactic| walk_at "nz") => `(tactic| first | decide | omega)
local macro_rules | `(tactic| walk_at "rd") => `(tactic| repeat' walk_at "rd1")
local macro_rules | `(tactic| walk_at "rdA") => `(tactic| with_reducible first
  | refine rd_op ?_
  | refine rd_c ?_
  | refine rd_cb ?_
  | refine rd_cons ?_
  | refine rd_nil ?_
  | refine rd_bl ?_
  | refine rd_ii ?_
  | refine rd_M1 ?_
  | refine rd_M0 ?_
  | refine rd_isS ?_
  | refine rd_test ?_
  | refine rd_B ?_
  | refine rd_and ?_
  | refine rd_or ?_
  | refine rd_not ?_
  | refine rd_andV ?_
  | refine rd_orV ?_
  | refine rd_notV ?_
  | refine rd_ifE ?_
  | refine rd_chain ?_
  | refine rd_seq ?_
  | refine rd_if ?_
  | refine rd_asg ?_
  | refine rd_gname ?_
  | refine rd_gsub ?_
  | refine rd_drop ?_
  | refine rd_ret ?_
  | refine rd_retN ?_
  | refine rd_brk ?_
  | refine rd_cnt ?_
  | refine rd_next ?_
  | refine rd_tup ?_
  | refine rd_lst ?_
  | refine rd_BM ?_
  | refine rd_gcons ?_
  | refine rd_gnil ?_
  | refine rd_sl ?_
  | refine rd_nopart ?_
  | refine rd_part ?_
  | refine rd_un ?_
  | refine rd_call ?_
  | refine rd_callN ?_
  | refine rd_fld ?_
  | refine rd_sfld ?_
  | refine rd_meth ?_
  | refine rd_make ?_
  | refine rd_stat ?_
  | refine rv_stat ?_
  | refine rd_lenSet ?_
  | refine rd_dget ?_
  | refine rd_din ?_
  | refine rd_dnin ?_
  | refine rd_dput ?_
  | refine rd_dnewK ?_
  | refine rd_dnewT ?_
  | refine rd_listRg ?_
  | refine rd_rg1 ?_
  | refine rd_rg2 ?_
  | refine rv_i2 ?_
  | refine rd_yes ?_
  | refine rd_iList ?_
  | refine rd_iTup ?_
  | refine rd_augS ?_
  | refine rv_ipI ?_
  | refine rd_zipA ?_
  | refine rd_enumT ?_
  | refine rd_for ?_
  | refine rd_rng1 ?_
  | refine rd_revL ?_
  | refine rv_addI ?_
  | refine rv_sub ?_
  | refine rv_lt ?_
  | refine rv_le ?_
  | refine rv_gt ?_
  | refine rv_ge ?_
  | refine rv_eqI ?_
  | refine rv_neI ?_
  | refine rv_eqS ?_
  | refine rv_eqB ?_
  | refine rv_neS ?_
  | refine rv_neB ?_
  | refine rv_int ?_
  | refine rv_inS ?_
  | refine rv_isNn ?_
  | refine rv_isNr ?_
  | refine rv_isNi ?_
  | refine rv_isNb ?_
  | refine rv_isNs ?_
  | refine rv_notNn ?_
  | refine rv_notNr ?_
  | refine rv_notNi ?_
  | refine rv_ninS ?_
  | refine rv_abs ?_
  | refine rv_max2 ?_
  | refine rv_min2 ?_
  | refine rv_ord ?_
  | refine rv_neg ?_
  | refine iteT ?_
  | refine iteF ?_
  | refine iteD (fun h => ?_) (fun h => ?_)
  | refine iteND (fun h => ?_) (fun h => ?_))
local macro_rules | `(tactic| walk_at "rd1") => `(tactic| first
  | ((with_reducible refine' rd_andB ?h ?_); (case h => (intro Qe hq; walk_at "rd"; exact hq)))
  | ((with_reducible refine' rd_orB ?h ?_); (case h => (intro Qe hq; walk_at "rd"; exact hq)))
  | walk_at "rdA"
  | ((with_reducible refine' rd_var ?h ?_); (case h => rfl))
  | ((with_reducible refine' rd_wipe ?h ?_); (case h => rfl))
  | ((with_reducible refine' rd_aug ?h ?_); (case h => rfl))
  | ((with_reducible refine' rv_ixL ?h ?c ?_); (case h => walk_at "sq"); (case c => walk_at "at"))
  | ((with_reducible refine' rv_ixS ?h ?c ?_); (case h => walk_at "sz"); (case c => walk_at "at"))
  | ((with_reducible refine' rv_setL ?h ?c ?_); (case h => walk_at "hp"); (case c => rfl))
  | ((with_reducible refine' rv_mulI ?h ?_); (case h => walk_at "mul"))
  | ((with_reducible refine' rv_mod ?h ?_); (case h => walk_at "nz"))
  | ((with_reducible refine' rv_div ?h ?_); (case h => walk_at "div"))
  | ((with_reducible refine' rv_pow ?h ?_); (case h => exact ⟨by decide, by decide, by decide⟩))
  | ((with_reducible refine' rv_get ?h ?h0 ?c ?_); (case h => walk_at "sq"); (case h0 => omega); (case c => walk_at "at"))
  | ((with_reducible refine' rv_lenL ?h ?_); (case h => walk_at "sq"))
  | ((with_reducible refine' rv_lenS ?h ?_); (case h => walk_at "sz"))
  | ((with_reducible refine' rv_addS ?h ?_); (case h => walk_at "sz"))
  | ((with_reducible refine' rd_tyL ?h ?_); (case h => walk_at "sq"))
  | (with_reducible refine rd_tyS ?_)
  | ((with_reducible refine' rv_inL ?h ?hx ?hf ?_); (case h => walk_at "sq"); (case hx => rfl); (case hf => rfl))
  | ((with_reducible refine' rv_ninL ?h ?hx ?hf ?_); (case h => walk_at "sq"); (case hx => rfl); (case hf => rfl))
  | ((with_reducible refine' rv_all ?h ?_); (case h => walk_at "sq"))
  | ((with_reducible refine' rv_addL ?h1 ?h2 ?h3 (fun p hp => ?_)); (case h1 => walk_at "hp"); (case h2 => walk_at "hp"); (case h3 => walk_at "sz"))
  | (with_reducible refine iteB (fun h => ?_) (fun h => ?_))
  | (refine ⟨rfl, rfl, ?_⟩)
  | ((with_reducible refine' rv_up ?h ?_); (case h => omega))
  | ((with_reducible refine' rv_iL ?h ?_); (case h => walk_at "sq"))
  | ((with_reducible refine' rv_iT ?h ?_); (case h => walk_at "sqt"))
  | ((with_reducible refine' rv_listL ?h (fun p hp => ?_)); (case h => walk_at "sq"))
  | ((with_reducible refine' rv_listT ?h (fun p hp => ?_)); (case h => walk_at "sqt"))
  | ((with_reducible refine' rv_tupL ?h (fun p hp => ?_)); (case h => walk_at "sq"))
  | ((with_reducible refine' rv_tupT ?h ?_); (case h => walk_at "sqt"))
  | ((with_reducible refine' rv_ixT ?h ?c ?_); (case h => walk_at "sqt"); (case c => walk_at "at"))
  | ((with_reducible refine' rd_gtup ?h ?c ?_); (case h => walk_at "sqt"); (case c => rfl))
  | ((with_reducible refine' rv_lenT ?h ?_); (case h => walk_at "sqt"))
  | ((with_reducible refine' rv_isiB ?h ?_); (case h => with_reducible first | exact isi_bool_bool | exact isi_bool_int | exact isi_bool_str | exact isi_bool_list | exact isi_bool_tuple | exact isi_bool_dict))
  | ((with_reducible refine' rv_isiI ?h ?_); (case h => with_reducible first | exact isi_int_bool | exact isi_int_int | exact isi_int_str | exact isi_int_list | exact isi_int_tuple | exact isi_int_dict))
  | ((with_reducible refine' rv_isiS ?h ?_); (case h => with_reducible first | exact isi_str_bool | exact isi_str_int | exact isi_str_str | exact isi_str_list | exact isi_str_tuple | exact isi_str_dict))
  | ((with_reducible refine' rv_isiN ?h ?_); (case h => with_reducible first | exact isi_NoneType_bool | exact isi_NoneType_int | exact isi_NoneType_str | exact isi_NoneType_list | exact isi_NoneType_tuple | exact isi_NoneType_dict))
  | ((with_reducible refine' rv_isiL ?e ?h ?_); (case e => walk_at "hp"); (case h => with_reducible first | exact isi_list_bool | exact isi_list_int | exact isi_list_str | exact isi_list_list | exact isi_list_tuple | exact isi_list_dict))
  | ((with_reducible refine' rv_isiT ?e ?h ?_); (case e => walk_at "hp"); (case h => with_reducible first | exact isi_tuple_bool | exact isi_tuple_int | exact isi_tuple_str | exact isi_tuple_list | exact isi_tuple_tuple | exact isi_tuple_dict))
  | ((with_reducible refine' rv_revL ?h ?_); (case h => walk_at "sq"))
  | (with_reducible refine fun (p : Addr) (hp : _ = none) => ?_)
  | ((with_reducible refine' rv_slL ?h (fun p hp => ?_)); (case h => walk_at "sq"))
  | ((with_reducible refine' rv_slS ?h ?_); (case h => walk_at "sz"))
  | ((with_reducible refine' rv_ext ?h ?h2 ?c ?_); (case h => walk_at "hp"); (case h2 => walk_at "hp"); (case c => walk_at "sz"))
  | (refine ⟨(by simp only [List.length_cons, List.length_nil]; decide), fun p hp => ?_⟩)
  | ((with_reducible refine' rv_app ?h ?c ?_); (case h => walk_at "hp"); (case c => walk_at "sz"))
  )
local macro_rules | `(tactic| walk_at "bag") => `(tactic| first | assumption | (refine ⟨_, _, _, _, _, upd_same, (by assumption), ?hp, (by omega), (by omega)⟩; (case hp => walk_at "hp")) | exact ⟨_, _, _, _, _, (by assumption), (by assumption), (by assumption), (by assumption), (by assumption)⟩ | (refine BagAt.new ?_ (by assumption); walk_at "bag") | (refine BagAt.put ?_ (by assumption) (by assumption); walk_at "bag"))

def spPriceFirst : Sp := fun vs H Q _ => ∃ (n : Nat) (u : Addr) (tab : List (List Int)) (d : Addr) (kvs : List (List Key × V)) (a : Addr) (o : List Nat) (m : Nat) (v : Int), vs = [.ref u, .ref d, .ref a, .int m] ∧ n ≤ 100 ∧ TupTab H u tab ∧ tab.length = n ∧ (∀ row ∈ tab, row.length = n) ∧ H d = some (.dT kvs) ∧ H a = some (.tup (natsV o)) ∧ o.length ≤ 100 ∧ (∀ k ∈ o, k < n) ∧ m < n ∧ valV kvs (kk (o.filter fun k => decide (k ≠ m))) = some (.int v) ∧
  ∀ H', Same H H' → Q (.int (v + (o.map fun k => gT tab m k).sum)) H'
theorem subs_range : ∀ n, List.range n ∈ subs n
  | 0 => by show [] ∈ [[]]; simp
  | n + 1 => by
    rw [List.range_succ]
    exact List.mem_append_right _ (List.mem_map.mpr ⟨_, subs_range n, rfl⟩)
def spLeastFirst : Sp := fun vs H Q _ => ∃ (n : Nat) (u : Addr) (tab : List (List Int)) (d a : Addr) (o : List Nat), vs = [.ref u, .ref d, .ref a] ∧ n ≤ 9 ∧ TupTab H u tab ∧ tab.length = n ∧ (∀ row ∈ tab, row.length = n) ∧ (∀ i, i < n → gT tab i i = 0) ∧ H d = some (.dT (tabK n (gT tab))) ∧ H a = some (.tup (natsV o)) ∧ o ∈ subs n ∧ o ≠ [] ∧
  ∀ H', Same H H' → Q (.int ((firsts (gT tab) o).headD 0 : Nat)) H'
def spLeastOrder (C : Addr) : Sp := fun vs H Q _ => ∃ (n : Nat) (p t : Addr) (rs : List Addr) (tab : List (List Int)), vs = [.ref p] ∧ n ≤ 9 ∧ CostsAt C H p n t rs tab ∧ (∀ i, i < n → gT tab i i = 0) ∧
  ∀ H' x y, Same H H' → H' x = some (.tup [.int (best (gT tab) n (List.range n)), .ref y]) → H' y = some (.tup (natsV (greedy (gT tab) n (List.range n)))) → Q (.ref x) H'
section
variable {P : Program} {w : World} {K : PySem.W.Frag} {mg : Str → Option Value} {base : Heap}
theorem ok_price_with_first (T : Txt K mg) : FnOk P w K mg base CX0 2 T.f_price_with_first T.fd_price_with_first ["rows", "table", "subset", "first"] spPriceFirst := by
  refine T.F_price_with_first.ok sc_price_with_first (fun vs H Q E h => ?_) (fun cdv A outer s H vs Q E hr h => ?_)
  · obtain ⟨n, u, tab, d, kvs, a, o, m, v, rfl, _⟩ := h
    rfl
  · obtain ⟨n, u, tab, d, kvs, a, o, m, v, rfl, hn, TT, lt, sq, ed, ea, lo, ho, hm, hv, q⟩ := h
    refine ⟨_, (pss_one (ps_ret (pe_op (dAdd K) (pe_dget (hu_of hr) (pv 1) (pe_call (ok_without T) (hr.mono (by omega)) (by rfl) T.g_without T.F_without.kp T.b_without .nil pass0 (pa_cons (pv 2) (pa_cons (pv 3) pa_nil))) (fun _ _ => rfl)) (pe_callB (dSum K rfl) (by rfl) T.n_sum (by decide +kernel) (pa_cons (pe_lc (own := [("other", 4)]) (g := gName 4) (tt := tYes) rfl sc_price_with_first.nd  (dpi_tup K (pv 2)) (blkOk_by (own := [("other", 4)]) (N := ["rows", "table", "subset", "first", "other"]) (sc := defScope s_price_with_first) (by decide +kernel)) (fun _ _ _ _ _ => (pg_name (i := 4) sc_price_with_first.nd rfl (by first | exact Or.inl rfl | exact Or.inr rfl))) (fun _ _ _ _ _ => pts_nil) (fun _ _ _ _ _ => (pe_ix (dIx K) (pe_ix (dIx K) (pv 0) (pv 3) (fun _ _ => rfl)) (pv 4) (fun _ _ => rfl)))) pa_nil))))), ?_⟩
    walk_at "rd"
    refine ⟨a, o, m, rfl, lo, ea, fun H1 x s1 ex => ?_⟩
    refine rv_dget (v := .int v) ?_ ?_
    · rw [← hv]
      exact DGet.t (s1 _ _ ed) (by rw [ex, kk_nats])
    have ea1 := s1 _ _ ea
    walk_at "rd"
    refine rd_lc ?_
    walk_at "rd"
    refine lc_pureF (walk_tup (K := K) (a := a) (xs := natsV o)) (fun _ => true) (fun i => .int (gT tab m (o.getD i 0))) (by rw [natsV_len]; omega) (fun H' s => SqT.of (s _ _ ea1)) same_at ?_ ?_
    · rintro i x' H' H2 Nx E hi s s2 ⟨rfl, hx⟩ hN _
      rw [natsV_len] at hi
      rw [natsV_get, List.getElem?_eq_getElem hi] at hx
      cases hx
      have gi : o.getD i 0 = o[i] := getD_of (List.getElem?_eq_getElem hi)
      rw [gi] at hN
      have hk := ho _ (List.getElem_mem hi)
      obtain ⟨ps, eu, pp⟩ := (TT.same s1).same s
      have lp : ps.length = n := by rw [Paired.len pp, lt]
      generalize o[i] = k at *
      obtain ⟨r, er, hr⟩ := Paired.get2 pp (List.getElem?_eq_getElem (show m < tab.length by omega))
      have ak : atI (ps.map V.ref) (m : Int) = some (.ref r) := atI_nat (by rw [List.getElem?_map, er]; rfl)
      have av := row_at lt sq hm hk
      walk_at "rd"
      exact hN rfl _ fun _ _ e => e
    · intro D H2 hD s2 e2
      have e3 : H2 D = some (.lst ((o.map fun k => gT tab m k).map V.int)) := by
        have := range_filter_map o 0 (fun _ => true) (fun k => V.int (gT tab m k))
        rw [ftrue, ftrue] at this
        rw [e2, natsV_len, ftrue, this, List.map_map]; rfl
      walk_at "rd"
      refine ⟨D, _, rfl, SqL.of e3, ?_⟩
      walk_at "rd"
      exact q H2 (s1.trans s2)
theorem ok_least_first (T : Txt K mg) : FnOk P w K mg base CX0 3 T.f_least_first T.fd_least_first ["rows", "table", "subset"] spLeastFirst := by
  refine T.F_least_first.ok sc_least_first (fun vs H Q E h => ?_) (fun cdv A outer s H vs Q E hr h => ?_)
  · obtain ⟨n, u, tab, d, a, o, rfl, _⟩ := h
    rfl
  · obtain ⟨n, u, tab, d, a, o, rfl, hn, TT, lt, sq, dg, ed, ea, om, ne, q⟩ := h
    have nd := subs_nd n o om
    have lo := subs_le n o om
    have lt' := subs_lt n o om
    have zo : ∀ v ∈ o, gT tab v v = 0 := fun v hv => dg v (lt' v hv)
    refine ⟨_, (pss_cons (ps_setLc (i := 3) (own := [("first", 4)]) (g := gName 4) rfl sc_least_first.nd rfl rfl (sw_true rfl rfl rfl (by decide +kernel)) (dpi_tup K (pv 2)) (blkOk_by (own := [("first", 4)]) (N := ["rows", "table", "subset", "firsts", "first"]) (sc := defScope s_least_first) (by decide +kernel)) (fun _ _ _ _ _ => (pg_name (i := 4) sc_least_first.nd rfl (by first | exact Or.inl rfl | exact Or.inr rfl))) (fun _ _ _ _ _ => (pts_one (pt_cmpR dEq (pe_call (ok_price_with_first T) (hr.mono (by omega)) (by rfl) T.g_price_with_first T.F_price_with_first.kp T.b_price_with_first .nil pass0 (pa_cons (pv 0) (pa_cons (pv 1) (pa_cons (pv 2) (pa_cons (pv 4) pa_nil))))) (pe_dget (hu_of hr) (pv 1) (pv 2) (fun _ _ => rfl)) (nomark _)))) (fun _ _ _ _ _ => (pv 4)))
   (pss_one (ps_ret (pe_ix (dIx K) (pv 3) pe_int (fun _ _ => rfl))))), ?_⟩
    walk_at "rd"
    refine rd_lc ?_
    walk_at "rd"
    refine lc_pureF (walk_tup (K := K) (a := a) (xs := natsV o)) (fun j => decide (Fst (gT tab) o (o.getD j 0) = best (gT tab) o.length o)) (fun j => .int (o.getD j 0 : Nat)) (by rw [natsV_len]; omega) (fun H' s => SqT.of (s _ _ ea)) same_at ?_ ?_
    · rintro j x' H' H2 Nx E hj s s2 ⟨rfl, hx⟩ hN hE
      rw [natsV_len] at hj
      rw [natsV_get, List.getElem?_eq_getElem hj] at hx
      cases hx
      have gj : o.getD j 0 = o[j] := getD_of (List.getElem?_eq_getElem hj)
      rw [gj] at hN hE
      have hv := List.getElem_mem hj
      generalize o[j] = v at *
      have ea2 := s _ _ ea
      have ed2 := s _ _ ed
      obtain ⟨i1, e1⟩ := List.getElem?_of_mem om
      obtain ⟨j2, _, e2⟩ := sub_before n i1 o e1 v hv
      walk_at "rd"
      refine ⟨n, u, tab, d, _, a, o, v, _, rfl, by omega, TT.same s, lt, sq, ed2, ea2, by omega, lt', lt' v hv, valV_subs (fun o => V.int (best (gT tab) o.length o)) _ _ (List.mem_of_getElem? e2), fun H3 s3 => ?_⟩
      have ea3 := s3 _ _ ea2
      have ed3 := s3 _ _ ed2
      walk_at "rd"
      refine rv_dget (v := .int (best (gT tab) o.length o)) ?_ ?_
      · rw [← valV_subs (fun o => V.int (best (gT tab) o.length o)) o (subs n) om]
        exact DGet.t ed3 (by rw [ea3, kk_nats])
      walk_at "rd"
      · rename_i h
        exact hN (decide_eq_true h) _ s3
      · rename_i h
        exact hE (decide_eq_false h) _ s3
    · intro D H2 hD s2 e2
      have e3 : H2 D = some (.lst (natsV (firsts (gT tab) o))) := by
        rw [e2, natsV_len]
        have := range_filter_map o 0 (fun v => decide (Fst (gT tab) o v = best (gT tab) o.length o)) (fun k => V.int (k : Nat))
        rw [this]; rfl
      obtain ⟨v, rest, ef, _, _⟩ := first_of (gT tab) nd zo ne
      rw [ef] at e3 q
      walk_at "rd"
      exact q H2 s2
theorem ok_least_order (T : Txt K mg) : FnOk P w K mg base CX0 4 T.f_least_order T.fd_least_order ["costs"] (spLeastOrder T.C_Costs) := by
  refine T.F_least_order.ok sc_least_order (fun vs H Q E h => ?_) (fun cdv A outer s H vs Q E hr h => ?_)
  · obtain ⟨n, p, t, rs, tab, rfl, _⟩ := h
    rfl
  · obtain ⟨n, p, t, rs, tab, rfl, hn, CA, dg, q⟩ := h
    obtain ⟨dx, ob⟩ := CA.ob
    refine ⟨_, (pss_cons (ps_set (i := 1) sc_least_order.nd rfl (by first | exact Or.inl rfl | exact Or.inr rfl) (pe_meth0 (pv 0) T.cl_Costs T.me_Costs_rows (ok_Costs_rows T) (hr.mono (by omega)) T.b_Costs_rows .nil pass0))
   (pss_cons (ps_set (i := 2) sc_least_order.nd rfl (by first | exact Or.inl rfl | exact Or.inr rfl) (pe_call (ok_subset_table T) (hr.mono (by omega)) (by rfl) T.g_subset_table T.F_subset_table.kp T.b_subset_table .nil pass0 (pa_cons (pv 0) pa_nil)))
   (pss_cons (ps_set (i := 3) sc_least_order.nd rfl (by first | exact Or.inl rfl | exact Or.inr rfl) (pe_tupRg rfl (by rfl) T.n_tuple (prg_1 (by rfl) T.n_range (pe_fld (pv 0) rfl))))
   (pss_cons (ps_set (i := 4) sc_least_order.nd rfl (by first | exact Or.inl rfl | exact Or.inr rfl) (pe_dget (hu_of hr) (pv 2) (pv 3) (fun _ _ => rfl)))
   (pss_cons (ps_set (i := 5) sc_least_order.nd rfl (by first | exact Or.inl rfl | exact Or.inr rfl) (pe_lst pa_nil))
   (pss_cons (ps_while PassesOwn.never (pt_truth (pv 3) (by intro _; rfl))
    (pss_cons (ps_set (i := 6) sc_least_order.nd rfl (by first | exact Or.inl rfl | exact Or.inr rfl) (pe_call (ok_least_first T) (hr.mono (by omega)) (by rfl) T.g_least_first T.F_least_first.kp T.b_least_first .nil pass0 (pa_cons (pv 1) (pa_cons (pv 2) (pa_cons (pv 3) pa_nil)))))
    (pss_cons (ps_expr (pe_bm PySem.F.plainAttrs_list PySem.F.slot_list_append PySem.F.type_list_append mt_append (pv 5) (pa_cons (pv 6) pa_nil)))
    (pss_one (ps_set (i := 3) sc_least_order.nd rfl (by first | exact Or.inl rfl | exact Or.inr rfl) (pe_call (ok_without T) (hr.mono (by omega)) (by rfl) T.g_without T.F_without.kp T.b_without .nil pass0 (pa_cons (pv 3) (pa_cons (pv 6) pa_nil))))))))
   (pss_one (ps_ret (pe_tup (pa_cons (pv 4) (pa_cons (pe_callTy (dTuple K) (by rfl) T.n_tuple (by decide +kernel) (pa_cons (pv 5) pa_nil)) pa_nil))))))))))), ?_⟩
    walk_at "rd"
    refine rv_meth ob (cF_no _ _ (by decide +kernel) (by decide +kernel)) ?_
    walk_at "rd"
    refine ⟨p, n, t, rs, tab, rfl, by omega, CA, fun H2 u ps s2 eu pp => ?_⟩
    walk_at "rd"
    refine ⟨n, p, t, rs, tab, rfl, hn, CA.same s2, fun H3 d s3 hd ed => ?_⟩
    have CA3 := (CA.same s2).same s3
    obtain ⟨dx3, ob3⟩ := CA3.ob
    have TT3 : TupTab H3 u tab := TupTab.same ⟨ps, eu, pp⟩ s3
    walk_at "rd"
    have lt := CA.sz
    have sq := CA.sq
    refine rd_tupRg (rd_rg1 ?_)
    walk_at "rd"
    refine rv_fld ob3 T.cl_Costs T.na_Costs_size (cF_size _ _) ?_
    refine ⟨_, rfl, RgOk.of_le (by omega) (by omega) (by omega) (by omega), fun z hz => ?_⟩
    rw [rg_nats]
    have sz : Same H3 (upd H3 z (.tup (natsV (List.range n)))) := same_upd hz
    have ez : (upd H3 z (.tup (natsV (List.range n)))) z = some (.tup (natsV (List.range n))) := upd_same
    generalize upd H3 z (.tup (natsV (List.range n))) = H4 at sz ez ⊢
    have ed4 := sz _ _ ed
    have rm := subs_range n
    walk_at "rd"
    refine rv_dget (v := .int (best (gT tab) n (List.range n))) ?_ ?_
    · have := valV_subs (fun o => V.int (best (gT tab) o.length o)) _ (subs n) rm
      rw [List.length_range] at this
      rw [← this]
      exact DGet.t ed4 (by rw [ez, kk_nats])
    walk_at "rd"
    rename_i L hL
    refine rd_whl (fun m σ H' => ∃ (lf : Addr) (o fin : List Nat) (x6 : Option V), σ = [some (.ref p), some (.ref u), some (.ref d), some (.ref lf), some (.int (best (gT tab) n (List.range n))), some (.ref L), x6] ∧ m = o.length ∧ o ∈ subs n ∧ OffS [L] H4 H' ∧ H' L = some (.lst (natsV fin)) ∧ H' lf = some (.tup (natsV o)) ∧ fin.length + o.length ≤ 100 ∧ greedy (gT tab) n (List.range n) = fin ++ greedy (gT tab) o.length o) n ⟨z, List.range n, [], none, rfl, List.length_range.symm, rm, (OffS.refl _ _).new hL, upd_same, hp_new hL ez, by rw [List.length_range]; simp; omega, by rw [List.length_range]; rfl⟩ ?_
    rintro m σ H5 ⟨lf, o, fin, x6, rfl, rfl, om, f5, eL, el, ln, eg⟩
    have nL : ∀ b o', H4 b = some o' → b ∉ [L] := fun b o' e h => by
      rw [List.mem_singleton.mp h, hL] at e; cases e
    have ed5 := f5 _ _ (nL _ _ ed4) ed4
    refine ⟨_, rfl, _, .inr (.inl ⟨_, SqT.of el, rfl⟩), ?_⟩
    by_cases ho : o = []
    · subst ho
      rw [show (!(natsV ([] : List Nat)).isEmpty) = false from rfl]
      dsimp only
      rw [if_neg (by decide)]
      rw [show greedy (gT tab) ([] : List Nat).length [] = [] from rfl, List.append_nil] at eg
      rw [← eg] at eL
      walk_at "rd"
      rename_i y hy x hx
      refine q _ x y (fun b o' e => ?_) upd_same (hp_new hx upd_same)
      have s4 := sz _ _ (s3 _ _ (s2 _ _ e))
      exact hp_new hx (hp_new hy (f5 _ _ (nL _ _ s4) s4))
    · have e1 : (!(natsV o).isEmpty) = true := by
        cases o with
        | nil => exact absurd rfl ho
        | cons x o => rfl
      rw [e1]
      dsimp only
      rw [if_pos rfl]
      refine ⟨fun σ' H' => ∃ (lf : Addr) (o' fin : List Nat) (x6 : Option V), σ' = [some (.ref p), some (.ref u), some (.ref d), some (.ref lf), some (.int (best (gT tab) n (List.range n))), some (.ref L), x6] ∧ o.length - 1 = o'.length ∧ o' ∈ subs n ∧ OffS [L] H4 H' ∧ H' L = some (.lst (natsV fin)) ∧ H' lf = some (.tup (natsV o')) ∧ fin.length + o'.length ≤ 100 ∧ greedy (gT tab) n (List.range n) = fin ++ greedy (gT tab) o'.length o', fun σ' H' h => ⟨o.length - 1, by have := List.length_pos_iff.mpr ho; omega, h⟩, ?_⟩
      have nd := subs_nd n o om
      have lt' := subs_lt n o om
      obtain ⟨v, rest, ef, hv, _⟩ := first_of (gT tab) nd (fun v hv => dg v (lt' v hv)) ho
      have TT5 : TupTab H5 u tab := by
        obtain ⟨ps', e', p'⟩ := TT3.same sz
        exact ⟨ps', f5 _ _ (nL _ _ e') e', Paired.mapP p' fun _ _ h => f5 _ _ (nL _ _ h) h⟩
      walk_at "rd"
      refine ⟨n, u, tab, d, lf, o, rfl, hn, TT5, lt, sq, dg, ed5, el, om, ho, fun H6 s6 => ?_⟩
      rw [ef, List.headD_cons]
      have eL6 := s6 _ _ eL
      have el6 := s6 _ _ el
      have nlf : lf ≠ L := fun e => by rw [e, eL] at el; cases el
      have nfl := natsV_len fin
      walk_at "rd"
      have elf : (upd H6 L (.lst (natsV fin ++ [V.int v]))) lf = some (.tup (natsV o)) := (upd_ne nlf).trans el6
      have eLn : (upd H6 L (.lst (natsV fin ++ [V.int v]))) L = some (.lst (natsV (fin ++ [v]))) := by
        rw [upd_same]; unfold natsV; rw [List.map_append]; rfl
      have f6 : OffS [L] H4 (upd H6 L (.lst (natsV fin ++ [V.int v]))) := (f5.same s6).set (by simp)
      generalize upd H6 L (.lst (natsV fin ++ [V.int v])) = H7 at elf eLn f6 ⊢
      refine ⟨lf, o, v, rfl, by omega, elf, fun H8 x s8 ex => ?_⟩
      obtain ⟨i1, e1'⟩ := List.getElem?_of_mem om
      obtain ⟨j2, _, e2⟩ := sub_before n i1 o e1' v hv
      have fl := filter_ne_len nd hv
      have gs : greedy (gT tab) o.length o = v :: greedy (gT tab) (o.filter fun k => decide (k ≠ v)).length (o.filter fun k => decide (k ≠ v)) := by
        rw [← fl]
        show (firsts (gT tab) o).headD 0 :: greedy (gT tab) _ (o.filter fun x => decide (x ≠ (firsts (gT tab) o).headD 0)) = _
        rw [ef, List.headD_cons]
      refine ⟨x, o.filter fun k => decide (k ≠ v), fin ++ [v], _, rfl, by omega, List.mem_of_getElem? e2, f6.same s8, s8 _ _ eLn, ex, by rw [List.length_append, List.length_singleton]; omega, ?_⟩
      rw [eg, gs, List.append_assoc]; rfl
end
end K29
namespace K29
open PySem PySem.Spec PyProof.Rows L2 D0
local macro_rules | `(tactic| walk_at "neB") => `(tactic| with_reducible first | assumption | (apply Ne.symm; assumption) | (refine' BagAt.ne ?x ?h; (case h => assumption); (case x => assumption)))
local macro_rules | `(tactic| walk_at "hq") => `(tactic| with_reducible first | assumption | exact upd_same | ((first | (refine' hp_new ?nn ?hq; (case nn => assumption)) | (refine' Off.get ?f ?ne ?hq; (case f => assumption); (case ne => walk_at "neB"))); (case hq => walk_at "hq")))
local macro_rules | `(tactic| walk_at "neA") => `(tactic| with_reducible first | (refine' BagAt.ne ?x ?h; (case h => assumption); (case x => assumption)) | (refine' ne_of_none ?x ?h; (case h => assumption); (case x => walk_at "hq")))
local macro_rules | `(tactic| walk_at "ne") => `(tactic| with_reducible first | assumption | (apply Ne.symm; assumption) | walk_at "neA" | (apply Ne.symm; walk_at "neA"))
local macro_rules | `(tactic| walk_at "off") => `(tactic| with_reducible repeat' (first | assumption | exact Off.refl _ _ | apply Off.set | (refine' Off.new ?_ ?h; (case h => assumption)) | (refine' Off.trans ?_ ?f; (case f => assumption))))
local macro_rules | `(tactic| walk_at "hp") => `(tactic| with_reducible first | assumption | exact upd_same | ((first | (refine' hp_new ?nn ?hp; (case nn => assumption)) | (refine' hp_set ?ne ?hp; (case ne => walk_at "ne")) | (refine' Off.get ?f ?ne ?hp; (case f => assumption); (case ne => walk_at "ne"))); (case hp => walk_at "hp")))
local macro_rules | `(tactic| walk_at "sq") => `(tactic| with_reducible first | assumption | (refine' SqL.of ?hh; (case hh => walk_at "hp")) | ((first | (refine' sq_new ?nn ?sq; (case nn => assumption)) | (refine' sq_set ?ne ?sq; (case ne => walk_at "ne")) | (refine' Off.seq ?f ?ne ?sq; (case f => assumption); (case ne => walk_at "ne"))); (case sq => walk_at "sq")))
local macro_rules | `(tactic| walk_at "sqt") => `(tactic| with_reducible first | assumption | (refine' SqT.of ?hh; (case hh => walk_at "hp")) | ((first | (refine' sqt_new ?nn ?sq; (case nn => assumption)) | (refine' sqt_set ?ne ?sq; (case ne => walk_at "ne")) | (refine' Off.seqT ?f ?ne ?sq; (case f => assumption); (case ne => walk_at "ne"))); (case sq => walk_at "sqt")))
/- straight-line steps of a reading -/
local macro_rules | `(tactic| walk_at "at") => `(tactic| first | assumption | rfl | exact atI_nat (j := 0) rfl | exact atI_nat (j := 1) rfl | exact atI_nat (j := 2) rfl | exact at_ints (by omega) (by omega))
local macro_rules | `(tactic| walk_at "sz") => `(tactic| first | assumption | decide | exact sz4 (by omega) | exact sz4' (by omega) | (simp only [List.length_map, List.length_append, List.length_cons, List.length_nil, List.length_range, List.length_replicate]; first | exact sz4 (by omega) | exact sz4' (by omega) | omega))
local macro_rules | `(tactic| walk_at "mul") => `(tactic| first | exact .inr ⟨by decide, by decide⟩ | exact mul_fm (by decide) (by decide) | exact .inl ⟨by omega, by omega⟩ | exact .inr ⟨by omega, by omega⟩)
local macro_rules | `(tactic| walk_at "div") => `(tactic| with_reducible first | exact div97 | exact div3 | exact div2 | exact div_m (by assumption) (by assumption))
local macro_rules | `(tactic| walk_at "nz") => `(tactic| first | decide | omega)
local macro_rules | `(tactic| walk_at "rd") => `(tactic| repeat' walk_at "rd1")
local macro_rules | `(tactic| walk_at "rdA") => `(tactic| with_reducible first
  | refine rd_op ?_
  | refine rd_c ?_
  | refine rd_cb ?_
  | refine rd_cons ?_
  | refine rd_nil ?_
  | refine rd_bl ?_
  | refine rd_ii ?_
  | refine rd_M1 ?_
  | refine rd_M0 ?_
  | refine rd_isS ?_
  | refine rd_test ?_
  | refine rd_B ?_
  | refine rd_and ?_
  | refine rd_or ?_
  | refine rd_not ?_
  | refine rd_andV ?_
  | refine rd_orV ?_
  | refine rd_notV ?_
  | refine rd_ifE ?_
  | refine rd_chain ?_
  | refine rd_seq ?_
  | refine rd_if ?_
  | refine rd_asg ?_
  | refine rd_gname ?_
  | refine rd_gsub ?_
  | refine rd_drop ?_
  | refine rd_ret ?_
  | refine rd_retN ?_
  | refine rd_brk ?_
  | refine rd_cnt ?_
  | refine rd_next ?_
  | refine rd_tup ?_
  | refine rd_lst ?_
  | refine rd_BM ?_
  | refine rd_gcons ?_
  | refine rd_gnil ?_
  | refine rd_sl ?_
  | refine rd_nopart ?_
  | refine rd_part ?_
  | refine rd_un ?_
  | refine rd_call ?_
  | refine rd_callN ?_
  | refine rd_fld ?_
  | refine rd_sfld ?_
  | refine rd_meth ?_
  | refine rd_make ?_
  | refine rd_stat ?_
  | refine rv_stat ?_
  | refine rd_lenSet ?_
  | refine rd_dget ?_
  | refine rd_din ?_
  | refine rd_dnin ?_
  | refine rd_dput ?_
  | refine rd_dnewK ?_
  | refine rd_dnewT ?_
  | refine rd_listRg ?_
  | refine rd_rg1 ?_
  | refine rd_rg2 ?_
  | refine rv_i2 ?_
  | refine rd_yes ?_
  | refine rd_iList ?_
  | refine rd_iTup ?_
  | refine rd_augS ?_
  | refine rv_ipI ?_
  | refine rd_zipA ?_
  | refine rd_enumT ?_
  | refine rd_for ?_
  | refine rd_rng1 ?_
  | refine rd_revL ?_
  | refine rv_addI ?_
  | refine rv_sub ?_
  | refine rv_lt ?_
  | refine rv_le ?_
  | refine rv_gt ?_
  | refine rv_ge ?_
  | refine rv_eqI ?_
  | refine rv_neI ?_
  | refine rv_eqS ?_
  | refine rv_eqB ?_
  | refine rv_neS ?_
  | refine rv_neB ?_
  | refine rv_int ?_
  | refine rv_inS ?_
  | refine rv_isNn ?_
  | refine rv_isNr ?_
  | refine rv_isNi ?_
  | refine rv_isNb ?_
  | refine rv_isNs ?_
  | refine rv_notNn ?_
  | refine rv_notNr ?_
  | refine rv_notNi ?_
  | refine rv_ninS ?_
  | refine rv_abs ?_
  | refine rv_max2 ?_
  | refine rv_min2 ?_
  | refine rv_ord ?_
  | refine rv_neg ?_
  | refine iteT ?_
  | refine iteF ?_
  | refine iteD (fun h => ?_) (fun h => ?_)
  | refine iteND (fun h => ?_) (fun h => ?_))
local macro_rules | `(tactic| walk_at "rd1") => `(tactic| first
  | ((with_reducible refine' rd_andB ?h ?_); (case h => (intro Qe hq; walk_at "rd"; exact hq)))
  | ((with_reducible refine' rd_orB ?h ?_); (case h => (intro Qe hq; walk_at "rd"; exact hq)))
  | walk_at "rdA"
  | ((with_reducible refine' rd_var ?h ?_); (case h => rfl))
  | ((with_reducible refine' rd_wipe ?h ?_); (case h => rfl))
  | ((with_reducible refine' rd_aug ?h ?_); (case h => rfl))
  | ((with_reducible refine' rv_ixL ?h ?c ?_); (case h => walk_at "sq"); (case c => walk_at "at"))
  | ((with_reducible refine' rv_ixS ?h ?c ?_); (case h => walk_at "sz"); (case c => walk_at "at"))
  | ((with_reducible refine' rv_setL ?h ?c ?_); (case h => walk_at "hp"); (case c => rfl))
  | ((with_reducible refine' rv_mulI ?h ?_); (case h => walk_at "mul"))
  | ((with_reducible refine' rv_mod ?h ?_); (case h => walk_at "nz"))
  | ((with_reducible refine' rv_div ?h ?_); (case h => walk_at "div"))
  | ((with_reducible refine' rv_pow ?h ?_); (case h => exact ⟨by decide, by decide, by decide⟩))
  | ((with_reducible refine' rv_get ?h ?h0 ?c ?_); (case h => walk_at "sq"); (case h0 => omega); (case c => walk_at "at"))
  | ((with_reducible refine' rv_lenL ?h ?_); (case h => walk_at "sq"))
  | ((with_reducible refine' rv_lenS ?h ?_); (case h => walk_at "sz"))
  | ((with_reducible refine' rv_addS ?h ?_); (case h => walk_at "sz"))
  | ((with_reducible refine' rd_tyL ?h ?_); (case h => walk_at "sq"))
  | (with_reducible refine rd_tyS ?_)
  | ((with_reducible refine' rv_inL ?h ?hx ?hf ?_); (case h => walk_at "sq"); (case hx => rfl); (case hf => rfl))
  | ((with_reducible refine' rv_ninL ?h ?hx ?hf ?_); (case h => walk_at "sq"); (case hx => rfl); (case hf => rfl))
  | ((with_reducible refine' rv_all ?h ?_); (case h => walk_at "sq"))
  | ((with_reducible refine' rv_addL ?h1 ?h2 ?h3 (fun p hp => ?_)); (case h1 => walk_at "hp"); (case h2 => walk_at "hp"); (case h3 => walk_at "sz"))
  | (with_reducible refine iteB (fun h => ?_) (fun h => ?_))
  | (refine ⟨rfl, rfl, ?_⟩)
  | ((with_reducible refine' rv_up ?h ?_); (case h => omega))
  | ((with_reducible refine' rv_iL ?h ?_); (case h => walk_at "sq"))
  | ((with_reducible refine' rv_iT ?h ?_); (case h => walk_at "sqt"))
  | ((with_reducible refine' rv_listL ?h (fun p hp => ?_)); (case h => walk_at "sq"))
  | ((with_reducible refine' rv_listT ?h (fun p hp => ?_)); (case h => walk_at "sqt"))
  | ((with_reducible refine' rv_tupL ?h (fun p hp => ?_)); (case h => walk_at "sq"))
  | ((with_reducible refine' rv_tupT ?h ?_); (case h => walk_at "sqt"))
  | ((with_reducible refine' rv_ixT ?h ?c ?_); (case h => walk_at "sqt"); (case c => walk_at "at"))
  | ((with_reducible refine' rd_gtup ?h ?c ?_); (case h => walk_at "sqt"); (case c => rfl))
  | ((with_reducible refine' rv_lenT ?h ?_); (case h => walk_at "sqt"))
  | ((with_reducible refine' rv_isiB ?h ?_); (case h => with_reducible first | exact isi_bool_bool | exact isi_bool_int | exact isi_bool_str | exact isi_bool_list | exact isi_bool_tuple | exact isi_bool_dict))
  | ((with_reducible refine' rv_isiI ?h ?_); (case h => with_reducible first | exact isi_int_bool | exact isi_int_int | exact isi_int_str | exact isi_int_list | exact isi_int_tuple | exact isi_int_dict))
  | ((with_reducible refine' rv_isiS ?h ?_); (case h => with_reducible first | exact isi_str_bool | exact isi_str_int | exact isi_str_str | exact isi_str_list | exact isi_str_tuple | exact isi_str_dict))
  | ((with_reducible refine' rv_isiN ?h ?_); (case h => with_reducible first | exact isi_NoneType_bool | exact isi_NoneType_int | exact isi_NoneType_str | exact isi_NoneType_list | exact isi_NoneType_tuple | exact isi_NoneType_dict))
  | ((with_reducible refine' rv_isiL ?e ?h ?_); (case e => walk_at "hp"); (case h => with_reducible first | exact isi_list_bool | exact isi_list_int | exact isi_list_str | exact isi_list_list | exact isi_list_tuple | exact isi_list_dict))
  | ((with_reducible refine' rv_isiT ?e ?h ?_); (case e => walk_at "hp"); (case h => with_reducible first | exact isi_tuple_bool | exact isi_tuple_int | exact isi_tuple_str | exact isi_tuple_list | exact isi_tuple_tuple | exact isi_tuple_dict))
  | ((with_reducible refine' rv_revL ?h ?_); (case h => walk_at "sq"))
  | (with_reducible refine fun (p : Addr) (hp : _ = none) => ?_)
  | ((with_reducible refine' rv_slL ?h (fun p hp => ?_)); (case h => walk_at "sq"))
  | ((with_reducible refine' rv_slS ?h ?_); (case h => walk_at "sz"))
  | ((with_reducible refine' rv_ext ?h ?h2 ?c ?_); (case h => walk_at "hp"); (case h2 => walk_at "hp"); (case c => walk_at "sz"))
  | (refine ⟨(by simp only [List.length_cons, List.length_nil]; decide), fun p hp => ?_⟩)
  | ((with_reducible refine' rv_app ?h ?c ?_); (case h => walk_at "hp"); (case c => walk_at "sz"))
  )
local macro_rules | `(tactic| walk_at "bag") => `(tactic| first | assumption | (refine ⟨_, _, _, _, _, upd_same, (by assumption), ?hp, (by omega), (by omega)⟩; (case hp => walk_at "hp")) | exact ⟨_, _, _, _, _, (by assumption), (by assumption), (by assumption), (by assumption), (by assumption)⟩ | (refine BagAt.new ?_ (by assumption); walk_at "bag") | (refine BagAt.put ?_ (by assumption) (by assumption); walk_at "bag"))

theorem rd_rng2 {σ : L2.St} {H : Hp} {ta : TA} {R : It → Hp → Prop} (q : ta σ H fun vs H1 => ∃ i j : Int, vs = [.int i, .int j] ∧ (-(2 ^ 62) ≤ i ∧ i < 2 ^ 62 ∧ -(2 ^ 62) ≤ j ∧ j < 2 ^ 62) ∧ R (Itr i (j - i).toNat) H1) : iRng2 ta σ H R := q
theorem pr_nonneg {f : Nat → Nat → Int} (h : ∀ i j, 0 ≤ f i j) : ∀ p : List Nat, 0 ≤ pr f p
  | [] => Int.le_refl _
  | v :: p => by
    have h1 := pr_nonneg h p
    have h2 : ∀ q : List Nat, 0 ≤ (q.map (f v)).sum := fun q => by
      induction q with
      | nil => exact Int.le_refl _
      | cons x q ih => rw [List.map_cons, List.sum_cons]; have := h v x; omega
    have h3 := h2 p
    show 0 ≤ (p.map (f v)).sum + pr f p
    omega
theorem sum_nonneg {g : Nat → Int} (h : ∀ j, 0 ≤ g j) : ∀ q : List Nat, 0 ≤ (q.map g).sum
  | [] => Int.le_refl _
  | x :: q => by rw [List.map_cons, List.sum_cons]; have := h x; have := sum_nonneg h q; omega
theorem best_nonneg {f : Nat → Nat → Int} (h : ∀ i j, 0 ≤ f i j) {o : List Nat} (nd : o.Nodup) (z : ∀ v ∈ o, f v v = 0) : 0 ≤ best f o.length o := by
  obtain ⟨_, p, _, e⟩ := best_min f o.length o nd rfl z
  rw [← e]
  exact pr_nonneg h p
/-- the price of the members of o with v last -/
def Lst (f : Nat → Nat → Int) (o : List Nat) (v : Nat) : Int := best f (o.filter fun k => decide (k ≠ v)).length (o.filter fun k => decide (k ≠ v)) + (o.map fun u => f u v).sum
/-- the least so far -/
theorem least_inv {g : Nat → Int} {o : List Nat} {k v : Nat} {b : Int} (tn : ∀ v ∈ o, 0 ≤ g v) (inv : (k = 0 ∧ b = -1) ∨ (0 < k ∧ b ∈ (o.take k).map g ∧ ∀ y ∈ (o.take k).map g, b ≤ y)) (ev : o[k]? = some v) (b' : Int) (c : (b < 0 ∧ b' = g v) ∨ (¬ b < 0 ∧ g v < b ∧ b' = g v) ∨ (¬ b < 0 ∧ ¬ g v < b ∧ b' = b)) :
    (k + 1 = 0 ∧ b' = -1) ∨ (0 < k + 1 ∧ b' ∈ (o.take (k + 1)).map g ∧ ∀ y ∈ (o.take (k + 1)).map g, b' ≤ y) := by
  have tk : (o.take (k + 1)).map g = (o.take k).map g ++ [g v] := by rw [List.take_succ, ev, List.map_append]; rfl
  refine .inr ⟨Nat.succ_pos k, ?_⟩
  rw [tk]
  rcases inv with ⟨rfl, rfl⟩ | ⟨k0, m, a⟩
  · have e : b' = g v := by rcases c with ⟨_, e⟩ | ⟨h, _⟩ | ⟨h, _⟩ <;> first | exact e | exact absurd (by decide) h
    rw [e]
    exact ⟨by simp, fun y hy => by simp at hy; omega⟩
  · obtain ⟨v', hv', e'⟩ := List.mem_map.mp m
    have b0 := tn v' (List.mem_of_mem_take hv')
    rcases c with ⟨h, _⟩ | ⟨_, h, rfl⟩ | ⟨_, h, rfl⟩
    · omega
    · refine ⟨by simp, fun y hy => ?_⟩
      rcases List.mem_append.mp hy with hy | hy
      · have := a y hy; omega
      · rw [List.mem_singleton.mp hy]; exact Int.le_refl _
    · refine ⟨List.mem_append_left _ m, fun y hy => ?_⟩
      rcases List.mem_append.mp hy with hy | hy
      · exact a y hy
      · rw [List.mem_singleton.mp hy]; omega
def spOrderPrice : Sp := fun vs H Q _ => ∃ (n : Nat) (l : Addr) (ls : List Addr) (tab : List (List Int)) (x : Addr) (o : List Nat), vs = [.ref l, .ref x] ∧ n ≤ 100 ∧ TabAt H l ls tab ∧ tab.length = n ∧ (∀ row ∈ tab, row.length = n) ∧ H x = some (.tup (natsV o)) ∧ o.length ≤ 100 ∧ (∀ v ∈ o, v < n) ∧
  ∀ H', Same H H' → Q (.int (pr (gT tab) o)) H'
def spDue : Sp := fun vs H Q _ => ∃ (n : Nat) (l : Addr) (ls : List Addr) (tab : List (List Int)), vs = [.ref l] ∧ n ≤ 9 ∧ TabAt H l ls tab ∧ tab.length = n ∧ (∀ row ∈ tab, row.length = n) ∧ (∀ i, i < n → gT tab i i = 0) ∧ (∀ i j, 0 ≤ gT tab i j) ∧
  ∀ H' d, Same H H' → H d = none → H' d = some (.dT (tabK n (gT tab))) → Q (.ref d) H'
section
variable {P : Program} {w : World} {K : PySem.W.Frag} {mg : Str → Option Value} {base : Heap}
theorem ok_law_order_price (T : Txt K mg) : FnOk P w K mg base CX0 1 T.f_law_order_price T.fd_law_order_price ["rows", "order"] spOrderPrice := by
  refine T.F_law_order_price.ok sc_law_order_price (fun vs H Q E h => ?_) (fun cdv A outer s H vs Q E hr h => ?_)
  · obtain ⟨n, l, ls, tab, x, o, rfl, _⟩ := h
    rfl
  · obtain ⟨n, l, ls, tab, x, o, rfl, hn, TA, lt, sq, ex, lo, ho, q⟩ := h
    have nl := natsV_len o
    have el := TA.tb
    refine ⟨_, (pss_cons (ps_set (i := 2) sc_law_order_price.nd rfl (by first | exact Or.inl rfl | exact Or.inr rfl) pe_int)
   (pss_cons (ps_for PassesOwn.never rfl (pi_range1 rfl T.n_range (pa_cons (pe_callB (dLen K) (by rfl) T.n_len (by decide +kernel) (pa_cons (pv 1) pa_nil)) pa_nil)) (pg_name (i := 3) sc_law_order_price.nd rfl (by first | exact Or.inl rfl | exact Or.inr rfl))
    (pss_one (ps_for PassesOwn.never rfl (pi_range2 rfl T.n_range (pa_cons (pe_op (dAdd K) (pv 3) pe_int) (pa_cons (pe_callB (dLen K) (by rfl) T.n_len (by decide +kernel) (pa_cons (pv 1) pa_nil)) pa_nil))) (pg_name (i := 4) sc_law_order_price.nd rfl (by first | exact Or.inl rfl | exact Or.inr rfl))
     (pss_one (ps_set (i := 2) sc_law_order_price.nd rfl (by first | exact Or.inl rfl | exact Or.inr rfl) (pe_op (dAdd K) (pv 2) (pe_ix (dIx K) (pe_ix (dIx K) (pv 0) (pe_ix (dIx K) (pv 1) (pv 3) (fun _ _ => rfl)) (fun _ _ => rfl)) (pe_ix (dIx K) (pv 1) (pv 4) (fun _ _ => rfl)) (fun _ _ => rfl))))))))
   (pss_one (ps_ret (pv 2))))), ?_⟩
    walk_at "rd"
    refine ⟨_, rfl, by omega, by omega, ?_⟩
    rw [nl, show ((o.length : Nat) : Int).toNat = o.length from by omega]
    refine for_range (lo := 0) (n := o.length) (fun i σ H' => ∃ (t : Int) (x3 x4 : Option V), σ = [some (.ref l), some (.ref x), some (.int t), x3, x4] ∧ H' = H ∧ t + pr (gT tab) (o.drop i) = pr (gT tab) o) ⟨0, _, _, rfl, rfl, by rw [List.drop_zero]; omega⟩ ?_ ?_
    · rintro i σ H1 hi ⟨t, x3, x4, rfl, rfl, et⟩
      rw [show (0 : Int) + (i : Int) = i by omega]
      have gi := List.getElem?_eq_getElem hi
      have dr : o.drop i = o[i] :: o.drop (i + 1) := List.drop_eq_getElem_cons hi
      rw [dr] at et
      have et : t + (((o.drop (i + 1)).map (gT tab o[i])).sum + pr (gT tab) (o.drop (i + 1))) = pr (gT tab) o := et
      have un := ho _ (List.getElem_mem hi)
      have ai : atI (natsV o) (i : Int) = some (.int (o[i] : Nat)) := atI_nat (by rw [natsV_get, gi]; rfl)
      generalize o[i] = u at *
      walk_at "rd"
      refine rd_rng2 ?_
      walk_at "rd"
      refine ⟨_, _, rfl, by omega, ?_⟩
      rw [show (((natsV o).length : Int) - ((i : Int) + 1)).toNat = o.length - (i + 1) from by omega]
      refine for_range (lo := (i : Int) + 1) (n := o.length - (i + 1)) (fun k σ H' => ∃ (t : Int) (x4 : Option V), σ = [some (.ref l), some (.ref x), some (.int t), some (.int i), x4] ∧ H' = H1 ∧ t + (((o.drop (i + 1 + k)).map (gT tab u)).sum + pr (gT tab) (o.drop (i + 1))) = pr (gT tab) o) ⟨t, _, rfl, rfl, et⟩ ?_ ?_
      · rintro k σ H2 hk ⟨t, x4, rfl, rfl, et⟩
        have hk2 : i + 1 + k < o.length := by omega
        have gk := List.getElem?_eq_getElem hk2
        have dr : o.drop (i + 1 + k) = o[i + 1 + k] :: o.drop (i + 1 + k + 1) := List.drop_eq_getElem_cons hk2
        rw [dr, List.map_cons, List.sum_cons] at et
        have vn := ho _ (List.getElem_mem hk2)
        rw [show (i : Int) + 1 + (k : Int) = ((i + 1 + k : Nat) : Int) from by omega]
        have ak : atI (natsV o) ((i + 1 + k : Nat) : Int) = some (.int (o[i + 1 + k] : Nat)) := atI_nat (by rw [natsV_get, gk]; rfl)
        generalize o[i + 1 + k] = v at *
        obtain ⟨r, er, ehr, ar⟩ := TA.get (List.getElem?_eq_getElem (show u < tab.length by omega))
        have av := row_at lt sq un vn
        walk_at "rd"
        exact ⟨_, _, rfl, rfl, by rw [show i + 1 + (k + 1) = i + 1 + k + 1 from rfl]; omega⟩
      · rintro σ H2 ⟨t, x4, rfl, rfl, et⟩
        rw [show i + 1 + (o.length - (i + 1)) = o.length from by omega, List.drop_length] at et
        refine ⟨t, _, _, rfl, rfl, ?_⟩
        have : (([] : List Nat).map (gT tab u)).sum = 0 := rfl
        omega
    · rintro σ H1 ⟨t, x3, x4, rfl, rfl, et⟩
      rw [List.drop_length] at et
      walk_at "rd"
      rw [show t = pr (gT tab) o from by have : pr (gT tab) [] = 0 := rfl; omega]
      exact q _ fun _ _ e => e
theorem ok_law_subsets (T : Txt K mg) : FnOk P w K mg base CX0 1 T.f_law_subsets T.fd_law_subsets ["size"] spSubsets := by
  refine T.F_law_subsets.ok sc_law_subsets (fun vs H Q E h => ?_) (fun cdv A outer s H vs Q E hr h => ?_)
  · obtain ⟨n, rfl, _⟩ := h
    rfl
  · obtain ⟨n, rfl, hn, q⟩ := h
    refine ⟨_, (pss_cons (ps_set (i := 1) sc_law_subsets.nd rfl (by first | exact Or.inl rfl | exact Or.inr rfl) (pe_lst (pa_cons (pe_tup pa_nil) pa_nil)))
   (pss_cons (ps_for PassesOwn.never rfl (pi_range1 rfl T.n_range (pa_cons (pv 0) pa_nil)) (pg_name (i := 2) sc_law_subsets.nd rfl (by first | exact Or.inl rfl | exact Or.inr rfl))
    (pss_one (ps_set (i := 1) sc_law_subsets.nd rfl (by first | exact Or.inl rfl | exact Or.inr rfl) (pe_op (dAdd K) (pv 1) (pe_lc (own := [("subset", 3)]) (g := gName 3) (tt := tYes) rfl sc_law_subsets.nd  (dpi_list K (pv 1)) (blkOk_by (own := [("subset", 3)]) (N := ["size", "subsets", "k", "subset"]) (sc := defScope s_law_subsets) (by decide +kernel)) (fun _ _ _ _ _ => (pg_name (i := 3) sc_law_subsets.nd rfl (by first | exact Or.inl rfl | exact Or.inr rfl))) (fun _ _ _ _ _ => pts_nil) (fun _ _ _ _ _ => (pe_op (dCatA K) (pv 3) (pe_tup (pa_cons (pv 2) pa_nil)))))))))
   (pss_one (ps_ret (pv 1))))), ?_⟩
    walk_at "rd"
    rename_i e he L hL
    refine ⟨_, rfl, by omega, by omega, ?_⟩
    refine for_range (lo := 0) (n := ((n : Int)).toNat) (fun i σ H' => ∃ (D : Addr) (qs : List Addr) (x2 : Option V), σ = [some (.int n), some (.ref D), x2, none] ∧ Same H H' ∧ H' D = some (.lst (qs.map V.ref)) ∧ Paired (fun x o => H' x = some (.tup (natsV o))) qs (subs i)) ⟨L, [e], _, rfl, (same_upd he).trans (same_upd hL), upd_same, .cons (hp_new hL upd_same) .nil⟩ ?_ ?_
    · rintro i σ H1 hi ⟨D, qs, x2, rfl, s1, eD, pq⟩
      rw [show (0 : Int) + (i : Int) = i by omega]
      have lq : qs.length = 2 ^ i := by rw [Paired.len pq, subs_len]
      have l10 : 2 ^ i ≤ 1024 := Nat.pow_le_pow_right (by decide) (by omega : i ≤ 10)
      walk_at "rd"
      refine rd_lc ?_
      walk_at "rd"
      refine lc_pureT (walk_list (K := K) (a := D) (xs := qs.map V.ref)) ((subs i).map (· ++ [i])) (fun H y o => ∃ u, y = .ref u ∧ H u = some (.tup (natsV o))) (by rw [List.length_map, List.length_map, Paired.len pq]) (by rw [List.length_map]; omega) (fun H' s => SqL.of (s _ _ eD)) same_at (fun H1 H2 y r ts ⟨u, e, h⟩ => ⟨u, e, ts _ _ h⟩) ?_ ?_
      · rintro k o' x' H' H3 Nx E er s s3 ⟨rfl, hx'⟩ hN
        rw [List.getElem?_map] at er hx'
        obtain ⟨o, eo, rfl⟩ := Option.map_eq_some_iff.mp er
        obtain ⟨u, eu, rfl⟩ := Option.map_eq_some_iff.mp hx'
        obtain ⟨o2, eo2, hu⟩ := Paired.get1 pq eu
        rw [eo] at eo2; cases eo2
        have hu3 := s _ _ hu
        walk_at "rd"
        have lo := subs_le i o (List.mem_of_getElem? eo)
        rename_i z1 hz1
        have hu4 := hp_new hz1 hu3 (o := .tup [V.int i])
        refine rv_catA hu4 upd_same (by rw [natsV_len]; exact sz4 (by simp; omega)) fun z H9 s9 e9 => ?_
        refine hN _ _ ((same_upd hz1).trans s9) ⟨z, rfl, ?_⟩
        rw [e9]
        show some (HO.tup (natsV o ++ natsV [i])) = _
        unfold natsV
        rw [List.map_append]
      · intro D2 ys H5 hD2 s5 e5 pr5
        obtain ⟨zs, rfl, pz⟩ := refs_of pr5
        have eD5 := s5 _ _ eD
        have lz : zs.length = 2 ^ i := by rw [Paired.len pz, List.length_map, subs_len]
        refine rv_addL eD5 e5 (by rw [List.length_map, List.length_map]; exact sz4 (by omega)) fun D3 hD3 => ?_
        walk_at "rd"
        refine ⟨D3, qs ++ zs, _, rfl, (s1.trans s5).trans (same_upd hD3), by rw [upd_same, List.map_append], ?_⟩
        exact Paired.app (Paired.mapP pq fun _ _ h => hp_new hD3 (s5 _ _ h)) (Paired.mapP pz fun _ _ h => hp_new hD3 h)
    · rintro σ H1 ⟨D, qs, x2, rfl, s1, eD, pq⟩
      rw [show ((n : Int)).toNat = n by omega] at pq
      walk_at "rd"
      exact q H1 D qs s1 eD pq
theorem ok_law_table (T : Txt K mg) : FnOk P w K mg base CX0 2 T.f_law_table T.fd_law_table ["rows"] spDue := by
  refine T.F_law_table.ok sc_law_table (fun vs H Q E h => ?_) (fun cdv A outer s H vs Q E hr h => ?_)
  · obtain ⟨n, l, ls, tab, rfl, _⟩ := h
    rfl
  · obtain ⟨n, l, ls, tab, rfl, hn, TA, lt, sq, dg, nn, q⟩ := h
    have el := TA.tb
    have ll := TA.len
    have p9 : 2 ^ n ≤ 2 ^ 9 := Nat.pow_le_pow_right (by decide) hn
    have p0 : 0 < 2 ^ n := Nat.pow_pos (by decide)
    refine ⟨_, (pss_cons (ps_set (i := 1) sc_law_table.nd rfl (by first | exact Or.inl rfl | exact Or.inr rfl) (pe_disp1 (hu_of hr) (pe_tup pa_nil) pe_int))
   (pss_cons (ps_for PassesOwn.never rfl (dpi_list K (pe_call (ok_law_subsets T) (hr.mono (by omega)) (by rfl) T.g_law_subsets T.F_law_subsets.kp T.b_law_subsets .nil pass0 (pa_cons (pe_callB (dLen K) (by rfl) T.n_len (by decide +kernel) (pa_cons (pv 0) pa_nil)) pa_nil))) (pg_name (i := 2) sc_law_table.nd rfl (by first | exact Or.inl rfl | exact Or.inr rfl))
    (pss_one (ps_if (pt_cmpR dGt (pe_callB (dLen K) (by rfl) T.n_len (by decide +kernel) (pa_cons (pv 2) pa_nil)) pe_int (nomark _))
     (pss_cons (ps_set (i := 3) sc_law_table.nd rfl (by first | exact Or.inl rfl | exact Or.inr rfl) (pe_un un_neg pe_int))
     (pss_cons (ps_for PassesOwn.never rfl (dpi_tup K (pv 2)) (pg_name (i := 4) sc_law_table.nd rfl (by first | exact Or.inl rfl | exact Or.inr rfl))
      (pss_cons (ps_set (i := 5) sc_law_table.nd rfl (by first | exact Or.inl rfl | exact Or.inr rfl) (pe_callTy (dTuple K) (by rfl) T.n_tuple (by decide +kernel) (pa_cons (pe_lc (own := [("u", 6)]) (g := gName 6) rfl sc_law_table.nd  (dpi_tup K (pv 2)) (blkOk_by (own := [("u", 6)]) (N := ["rows", "table", "subset", "best", "v", "rest", "u", "total"]) (sc := defScope s_law_table) (by decide +kernel)) (fun _ _ _ _ _ => (pg_name (i := 6) sc_law_table.nd rfl (by first | exact Or.inl rfl | exact Or.inr rfl))) (fun _ _ _ _ _ => (pts_one (pt_cmpR dNe (pv 6) (pv 4) (nomark _)))) (fun _ _ _ _ _ => (pv 6))) pa_nil)))
      (pss_cons (ps_set (i := 7) sc_law_table.nd rfl (by first | exact Or.inl rfl | exact Or.inr rfl) (pe_dget (hu_of hr) (pv 1) (pv 5) (fun _ _ => rfl)))
      (pss_cons (ps_for PassesOwn.never rfl (dpi_tup K (pv 5)) (pg_name (i := 6) sc_law_table.nd rfl (by first | exact Or.inl rfl | exact Or.inr rfl))
       (pss_one (ps_set (i := 7) sc_law_table.nd rfl (by first | exact Or.inl rfl | exact Or.inr rfl) (pe_op (dAdd K) (pv 7) (pe_ix (dIx K) (pe_ix (dIx K) (pv 0) (pv 6) (fun _ _ => rfl)) (pv 4) (fun _ _ => rfl))))))
      (pss_one (ps_if (PW.pt (pw_or (pt_cmpR dLt (pv 3) pe_int (nomark _)) (pw_or1 (pt_cmpR dLt (pv 7) (pv 3) (nomark _)))))
       (pss_one (ps_set (i := 3) sc_law_table.nd rfl (by first | exact Or.inl rfl | exact Or.inr rfl) (pv 7)))
       pss_nil))))))
     (pss_one (ps_dput (hu_of hr) (pv 1) (pv 2) (pv 3) rfl))))
     pss_nil)))
   (pss_one (ps_ret (pv 1))))), ?_⟩
    walk_at "rd"
    refine rd_disp1 fun d hd => ?_
    walk_at "rd"
    rename_i z hz
    refine ⟨hp_new hz upd_same, z, [], rfl, upd_same, ?_⟩
    have s3 : Same H (upd (upd (upd H d (.dT [])) z (.tup [])) d (.dT [([], .int 0)])) := fun b o e => (upd_ne (ne_of_none e hd)).trans (hp_new hz (hp_new hd e))
    have ed3 : (upd (upd (upd H d (.dT [])) z (.tup [])) d (.dT [([], .int 0)])) d = some (.dT [([], .int 0)]) := upd_same
    generalize (upd (upd (upd H d (.dT [])) z (.tup [])) d (.dT [([], .int 0)])) = H3 at s3 ed3 ⊢
    have TA3 := TA.same s3
    have el3 := TA3.tb
    walk_at "rd"
    refine ⟨n, by rw [List.length_map, ll, lt]; rfl, by omega, fun H4 D qs s4 eD pq => ?_⟩
    have ed4 := s4 _ _ ed3
    have TA4 := TA3.same s4
    walk_at "rd"
    have tk0 : ((subs n).take 1).map (fun o => (kk o, V.int (best (gT tab) o.length o))) = [([], V.int 0)] := by
      have h0 := subs_head n
      cases hs : subs n with
      | nil => rw [hs] at h0; cases h0
      | cons x l => rw [hs] at h0; cases h0; rfl
    refine for_list (K := K) (a := D) (xs := qs.map V.ref) (fun i σ H' => ∃ (x2 x3 x4 x5 x6 x7 : Option V), σ = [some (.ref l), some (.ref d), x2, x3, x4, x5, x6, x7] ∧ OffS [d] H4 H' ∧ H' d = some (.dT (((subs n).take (max 1 i)).map fun o => (kk o, V.int (best (gT tab) o.length o)))))
      ⟨_, _, _, _, _, _, rfl, OffS.refl _ _, by show H4 d = some (.dT (((subs n).take 1).map _)); rw [tk0]; exact ed4⟩ (fun i σ H' _ h => by
        obtain ⟨_, _, _, _, _, _, _, s, _⟩ := h
        exact SqL.of (s _ _ (fun e => by rw [List.mem_singleton.mp e, ed4] at eD; cases eD) eD)) ?_ ?_
    · rintro i x σ H5 hi ⟨x2, x3, x4, x5, x6, x7, rfl, s5, ed5⟩
      rw [List.getElem?_map] at hi
      obtain ⟨a, ea, rfl⟩ := Option.map_eq_some_iff.mp hi
      obtain ⟨o, eo, ha⟩ := Paired.get1 pq ea
      have om := List.mem_of_getElem? eo
      have hid : ∀ {b : Addr} {o' : HO}, H4 b = some o' → (∀ k, o' ≠ .dT k) → b ∉ [d] := fun h hn e => by
        rw [List.mem_singleton.mp e, ed4] at h
        cases h
        exact hn _ rfl
      have ha5 := s5 _ _ (hid ha (fun _ e => nomatch e)) ha
      have nd := subs_nd n o om
      have lo := subs_le n o om
      have lt' := subs_lt n o om
      have nl := natsV_len o
      have zo : ∀ v ∈ o, gT tab v v = 0 := fun v hv => dg v (lt' v hv)
      have TA5 : TabAt H5 l ls tab := TA4.offs s5 (hid TA4.tb (fun _ e => nomatch e)) fun r hr => by
        obtain ⟨ys, e⟩ := TabAt.lsts TA4 r (List.mem_cons_of_mem _ hr)
        exact hid e (fun _ e => nomatch e)
      walk_at "rd"
      · rename_i h0
        have ho : o ≠ [] := fun e => by rw [nl, e] at h0; simp at h0
        have h00 := subs_head n
        have i1 : 1 ≤ i := by
          by_cases h : i = 0
          · subst h
            rw [eo] at h00; cases h00
            exact absurd rfl ho
          · omega
        rw [Nat.max_eq_right i1] at ed5
        have tn : ∀ v ∈ o, 0 ≤ Lst (gT tab) o v := fun v hv => by
          have h1 := best_nonneg nn (nd_out (m := v) nd) (fun x hx => dg x (lt' x (List.mem_filter.mp hx).1))
          have h2 : 0 ≤ (o.map fun u => gT tab u v).sum := sum_nonneg (g := fun u => gT tab u v) (fun u => nn u v) o
          show 0 ≤ _ + _
          omega
        refine for_tup (K := K) (a := a) (xs := natsV o) (fun k σ H' => ∃ (b : Int) (x4 x5 x6 x7 : Option V), σ = [some (.ref l), some (.ref d), some (.ref a), some (.int b), x4, x5, x6, x7] ∧ Same H5 H' ∧ ((k = 0 ∧ b = -1) ∨ (0 < k ∧ b ∈ (o.take k).map (Lst (gT tab) o) ∧ ∀ y ∈ (o.take k).map (Lst (gT tab) o), b ≤ y)))
          ⟨-1, _, _, _, _, rfl, fun _ _ e => e, .inl ⟨rfl, rfl⟩⟩ (fun k σ H' _ h => by
            obtain ⟨_, _, _, _, _, _, s, _⟩ := h
            exact SqT.of (s _ _ ha5)) ?_ ?_
        · rintro k x σ H6 hk ⟨b, x4, x5, x6, x7, rfl, s6, inv⟩
          rw [natsV_get] at hk
          obtain ⟨v, ev, rfl⟩ := Option.map_eq_some_iff.mp hk
          have hv := List.mem_of_getElem? ev
          have vn := lt' v hv
          have ha6 := s6 _ _ ha5
          have ed6 := s6 _ _ ed5
          have TA6 := TA5.same s6
          obtain ⟨j2, hj2, e2⟩ := sub_before n i o eo v hv
          have so : ((o.filter fun k => decide (k ≠ v)).map fun u => gT tab u v).sum = (o.map fun u => gT tab u v).sum := (sum_out (g := fun u => gT tab u v) nd hv (zo v hv) (.refl _)).symm
          have inv' := least_inv tn inv ev
          walk_at "rd"
          refine rd_lc ?_
          walk_at "rd"
          refine lc_pureF (walk_tup (K := K) (a := a) (xs := natsV o)) (fun j => decide (o.getD j 0 ≠ v)) (fun j => .int (o.getD j 0 : Nat)) (by rw [natsV_len]; omega) (fun H' s => SqT.of (s _ _ ha6)) same_at ?_ ?_
          · rintro j x' H' H7 Nx E hj s7 s7' ⟨rfl, hx⟩ hN hE
            rw [natsV_len] at hj
            rw [natsV_get, List.getElem?_eq_getElem hj] at hx
            cases hx
            have gj : o.getD j 0 = o[j] := getD_of (List.getElem?_eq_getElem hj)
            rw [gj] at hN hE
            walk_at "rd"
            · exact hN (decide_eq_true (by omega)) _ fun _ _ e => e
            · exact hE (decide_eq_false (by omega)) _ fun _ _ e => e
          · intro D2 H7 hD2 s7 e7
            rw [natsV_len, range_filter_map o 0 (fun k => decide (k ≠ v)) (fun k => V.int (k : Nat))] at e7
            replace e7 : H7 D2 = some (.lst (natsV (o.filter fun k => decide (k ≠ v)))) := e7
            walk_at "rd"
            rename_i u hu
            have eu := upd_same (H := H7) (a := u) (o := .tup (natsV (o.filter fun k => decide (k ≠ v))))
            have s8 := s7.trans (same_upd hu (o := .tup (natsV (o.filter fun k => decide (k ≠ v)))))
            generalize upd H7 u (.tup (natsV (o.filter fun k => decide (k ≠ v)))) = H8 at eu s8 ⊢
            have ed8 := s8 _ _ ed6
            have TA8 := TA6.same s8
            refine rv_dget (v := .int (best (gT tab) (o.filter fun k => decide (k ≠ v)).length (o.filter fun k => decide (k ≠ v)))) ?_ ?_
            · rw [← valV_subs (fun o => V.int (best (gT tab) o.length o)) _ ((subs n).take i) (List.mem_of_getElem? (by rw [List.getElem?_take, if_pos hj2]; exact e2))]
              exact DGet.t ed8 (by rw [eu, kk_nats])
            walk_at "rd"
            generalize hR : (o.filter fun k => decide (k ≠ v)) = rr at *
            have rl' : ∀ y ∈ rr, y < n := fun y hy => lt' y (by rw [← hR] at hy; exact (List.mem_filter.mp hy).1)
            refine for_tup (K := K) (a := u) (xs := natsV rr) (fun k σ H' => ∃ (t : Int) (x6 : Option V), σ = [some (.ref l), some (.ref d), some (.ref a), some (.int b), some (.int v), some (.ref u), x6, some (.int t)] ∧ H' = H8 ∧ t + ((rr.drop k).map fun u => gT tab u v).sum = Lst (gT tab) o v)
              ⟨_, _, rfl, rfl, by rw [List.drop_zero, so]; unfold Lst; rw [hR]⟩ (fun k σ H' _ h => by
                obtain ⟨_, _, _, rfl, _⟩ := h
                exact SqT.of eu) ?_ ?_
            · rintro j y σ H9 hj ⟨t, x6, rfl, rfl, et⟩
              rw [natsV_get] at hj
              obtain ⟨w', ew, rfl⟩ := Option.map_eq_some_iff.mp hj
              have wn := rl' w' (List.mem_of_getElem? ew)
              have hj' := (List.getElem?_eq_some_iff.mp ew).1
              have dr : rr.drop j = w' :: rr.drop (j + 1) := by rw [List.drop_eq_getElem_cons hj', (List.getElem?_eq_some_iff.mp ew).2]
              rw [dr, List.map_cons, List.sum_cons] at et
              obtain ⟨r, er, ehr, ar⟩ := TA8.get (List.getElem?_eq_getElem (show w' < tab.length by omega))
              have el8 := TA8.tb
              have av := row_at lt sq wn vn
              walk_at "rd"
              exact ⟨_, _, rfl, rfl, by omega⟩
            · rintro σ H9 ⟨t, x6, rfl, rfl, et⟩
              rw [natsV_len, List.drop_length] at et
              have et : t = Lst (gT tab) o v := by
                have : (([] : List Nat).map fun u => gT tab u v).sum = 0 := rfl
                omega
              subst et
              walk_at "rd"
              · rename_i h
                exact ⟨_, _, _, _, _, rfl, s6.trans s8, inv' _ (.inl ⟨h, rfl⟩)⟩
              · rename_i h1 h2
                exact ⟨_, _, _, _, _, rfl, s6.trans s8, inv' _ (.inr (.inl ⟨h1, h2, rfl⟩))⟩
              · rename_i h1 h2
                exact ⟨_, _, _, _, _, rfl, s6.trans s8, inv' _ (.inr (.inr ⟨h1, h2, rfl⟩))⟩
        · rintro σ H6 ⟨b, x4, x5, x6, x7, rfl, s6, inv⟩
          rw [natsV_len, List.take_length] at inv
          rcases inv with ⟨z, _⟩ | ⟨_, m, av⟩
          · exact absurd (List.length_eq_zero_iff.mp z) ho
          have eb : b = best (gT tab) o.length o := by
            have bs := best_step (gT tab) nd ho
            obtain ⟨l1, l2⟩ := leastL_spec (o.map (Lst (gT tab) o)) (by simp [ho])
            rw [bs]
            exact Int.le_antisymm (av _ l1) (l2 _ m)
          subst eb
          have ed6 := s6 _ _ ed5
          have ha6 := s6 _ _ ha5
          walk_at "rd"
          have hl : (((subs n).take i).map fun o => (kk o, V.int (best (gT tab) o.length o))).length ≤ 1000 := by
            rw [List.length_map, List.length_take, subs_len]
            omega
          refine rv_dput (DPut.t ed6 (by rw [ha6, kk_nats]) (sz4' (by omega))) ?_
          have nw : o ∉ (subs n).take i := fun h => by
            obtain ⟨j, hj, e⟩ := List.mem_iff_getElem.mp h
            rw [List.length_take] at hj
            rw [List.getElem_take] at e
            have := (List.getElem?_inj (by omega) (subs_nodup n)).mp (((List.getElem?_eq_getElem (by omega)).trans (congrArg some e)).trans eo.symm)
            omega
          rw [putK_new _ (valV_no (fun o => V.int (best (gT tab) o.length o)) o _ nw)]
          refine ⟨_, _, _, _, _, _, rfl, (s5.same s6).set (by simp), ?_⟩
          rw [upd_same, Nat.max_eq_right (by omega : 1 ≤ i + 1), List.take_succ, eo, List.map_append]
          rfl
      · rename_i h0
        have ho : o = [] := by
          cases o with
          | nil => rfl
          | cons x o => exact absurd (by rw [nl]; simp) h0
        have h00 := subs_head n
        have i0 : i = 0 := by
          by_cases h : i = 0
          · exact h
          · exact absurd ((List.getElem?_inj (by have := (List.getElem?_eq_some_iff.mp h00).1; exact this) (subs_nodup n)).mp (h00.trans (by rw [eo, ho]))).symm h
        subst i0
        exact ⟨_, _, _, _, _, _, rfl, s5, ed5⟩
    · rintro σ H5 ⟨x2, x3, x4, x5, x6, x7, rfl, s5, ed5⟩
      have le : (qs.map V.ref).length = (subs n).length := by rw [List.length_map, Paired.len pq]
      have lp : 0 < (subs n).length := by rw [subs_len]; exact p0
      rw [le, Nat.max_eq_right lp, List.take_length] at ed5
      walk_at "rd"
      refine q H5 d (fun b o e => s5 _ _ (fun h => ?_) (s4 _ _ (s3 _ _ e))) hd ed5
      rw [List.mem_singleton.mp h] at e
      rw [e] at hd; cases hd
end
end K29
namespace K29
open PySem PySem.Spec PyProof.Rows L2 D0
local macro_rules | `(tactic| walk_at "neB") => `(tactic| with_reducible first | assumption | (apply Ne.symm; assumption) | (refine' BagAt.ne ?x ?h; (case h => assumption); (case x => assumption)))
local macro_rules | `(tactic| walk_at "hq") => `(tactic| with_reducible first | assumption | exact upd_same | ((first | (refine' hp_new ?nn ?hq; (case nn => assumption)) | (refine' Off.get ?f ?ne ?hq; (case f => assumption); (case ne => walk_at "neB"))); (case hq => walk_at "hq")))
local macro_rules | `(tactic| walk_at "neA") => `(tactic| with_reducible first | (refine' BagAt.ne ?x ?h; (case h => assumption); (case x => assumption)) | (refine' ne_of_none ?x ?h; (case h => assumption); (case x => walk_at "hq")))
local macro_rules | `(tactic| walk_at "ne") => `(tactic| with_reducible first | assumption | (apply Ne.symm; assumption) | walk_at "neA" | (apply Ne.symm; walk_at "neA"))
local macro_rules | `(tactic| walk_at "off") => `(tactic| with_reducible repeat' (first | assumption | exact Off.refl _ _ | apply Off.set | (refine' Off.new ?_ ?h; (case h => assumption)) | (refine' Off.trans ?_ ?f; (case f => assumption))))
local macro_rules | `(tactic| walk_at "hp") => `(tactic| with_reducible first | assumption | exact upd_same | ((first | (refine' hp_new ?nn ?hp; (case nn => assumption)) | (refine' hp_set ?ne ?hp; (case ne => walk_at "ne")) | (refine' Off.get ?f ?ne ?hp; (case f => assumption); (case ne => walk_at "ne"))); (case hp => walk_at "hp")))
local macro_rules | `(tactic| walk_at "sq") => `(tactic| with_reducible first | assumption | (refine' SqL.of ?hh; (case hh => walk_at "hp")) | ((first | (refine' sq_new ?nn ?sq; (case nn => assumption)) | (refine' sq_set ?ne ?sq; (case ne => walk_at "ne")) | (refine' Off.seq ?f ?ne ?sq; (case f => assumption); (case ne => walk_at "ne"))); (case sq => walk_at "sq")))
local macro_rules | `(tactic| walk_at "sqt") => `(tactic| with_reducible first | assumption | (refine' SqT.of ?hh; (case hh => walk_at "hp")) | ((first | (refine' sqt_new ?nn ?sq; (case nn => assumption)) | (refine' sqt_set ?ne ?sq; (case ne => walk_at "ne")) | (refine' Off.seqT ?f ?ne ?sq; (case f => assumption); (case ne => walk_at "ne"))); (case sq => walk_at "sqt")))
/- straight-line steps of a reading -/
local macro_rules | `(tactic| walk_at "at") => `(tactic| first | assumption | rfl | exact atI_nat (j := 0) rfl | exact atI_nat (j := 1) rfl | exact atI_nat (j := 2) rfl | exact at_ints (by omega) (by omega))
local macro_rules | `(tactic| walk_at "sz") => `(tactic| first | assumption | decide | exact sz4 (by omega) | exact sz4' (by omega) | (simp only [List.length_map, List.length_append, List.length_cons, List.length_nil, List.length_range, List.length_replicate]; first | exact sz4 (by omega) | exact sz4' (by omega) | omega))
local macro_rules | `(tactic| walk_at "mul") => `(tactic| first | exact .inr ⟨by decide, by decide⟩ | exact mul_fm (by decide) (by decide) | exact .inl ⟨by omega, by omega⟩ | exact .inr ⟨by omega, by omega⟩)
local macro_rules | `(tactic| walk_at "div") => `(tactic| with_reducible first | exact div97 | exact div3 | exact div2 | exact div_m (by assumption) (by assumption))
local macro_rules | `(tactic| walk_at "nz") => `(tactic| first | decide | omega)
local macro_rules | `(tactic| walk_at "rd") => `(tactic| repeat' walk_at "rd1")
local macro_rules | `(tactic| walk_at "rdA") => `(tactic| with_reducible first
  | refine rd_op ?_
  | refine rd_c ?_
  | refine rd_cb ?_
  | refine rd_cons ?_
  | refine rd_nil ?_
  | refine rd_bl ?_
  | refine rd_ii ?_
  | refine rd_M1 ?_
  | refine rd_M0 ?_
  | refine rd_isS ?_
  | refine rd_test ?_
  | refine rd_B ?_
  | refine rd_and ?_
  | refine rd_or ?_
  | refine rd_not ?_
  | refine rd_andV ?_
  | refine rd_orV ?_
  | refine rd_notV ?_
  | refine rd_ifE ?_
  | refine rd_chain ?_
  | refine rd_seq ?_
  | refine rd_if ?_
  | refine rd_asg ?_
  | refine rd_gname ?_
  | refine rd_gsub ?_
  | refine rd_drop ?_
  | refine rd_ret ?_
  | refine rd_retN ?_
  | refine rd_brk ?_
  | refine rd_cnt ?_
  | refine rd_next ?_
  | refine rd_tup ?_
  | refine rd_lst ?_
  | refine rd_BM ?_
  | refine rd_gcons ?_
  | refine rd_gnil ?_
  | refine rd_sl ?_
  | refine rd_nopart ?_
  | refine rd_part ?_
  | refine rd_un ?_
  | refine rd_call ?_
  | refine rd_callN ?_
  | refine rd_fld ?_
  | refine rd_sfld ?_
  | refine rd_meth ?_
  | refine rd_make ?_
  | refine rd_stat ?_
  | refine rv_stat ?_
  | refine rd_lenSet ?_
  | refine rd_dget ?_
  | refine rd_din ?_
  | refine rd_dnin ?_
  | refine rd_dput ?_
  | refine rd_dnewK ?_
  | refine rd_dnewT ?_
  | refine rd_listRg ?_
  | refine rd_rg1 ?_
  | refine rd_rg2 ?_
  | refine rv_i2 ?_
  | refine rd_yes ?_
  | refine rd_iList ?_
  | refine rd_iTup ?_
  | refine rd_augS ?_
  | refine rv_ipI ?_
  | refine rd_zipA ?_
  | refine rd_enumT ?_
  | refine rd_for ?_
  | refine rd_rng1 ?_
  | refine rd_revL ?_
  | refine rv_addI ?_
  | refine rv_sub ?_
  | refine rv_lt ?_
  | refine rv_le ?_
  | refine rv_gt ?_
  | refine rv_ge ?_
  | refine rv_eqI ?_
  | refine rv_neI ?_
  | refine rv_eqS ?_
  | refine rv_eqB ?_
  | refine rv_neS ?_
  | refine rv_neB ?_
  | refine rv_int ?_
  | refine rv_inS ?_
  | refine rv_isNn ?_
  | refine rv_isNr ?_
  | refine rv_isNi ?_
  | refine rv_isNb ?_
  | refine rv_isNs ?_
  | refine rv_notNn ?_
  | refine rv_notNr ?_
  | refine rv_notNi ?_
  | refine rv_ninS ?_
  | refine rv_abs ?_
  | refine rv_max2 ?_
  | refine rv_min2 ?_
  | refine rv_ord ?_
  | refine rv_neg ?_
  | refine iteT ?_
  | refine iteF ?_
  | refine iteD (fun h => ?_) (fun h => ?_)
  | refine iteND (fun h => ?_) (fun h => ?_))
local macro_rules | `(tactic| walk_at "rd1") => `(tactic| first
  | ((with_reducible refine' rd_andB ?h ?_); (case h => (intro Qe hq; walk_at "rd"; exact hq)))
  | ((with_reducible refine' rd_orB ?h ?_); (case h => (intro Qe hq; walk_at "rd"; exact hq)))
  | walk_at "rdA"
  | ((with_reducible refine' rd_var ?h ?_); (case h => rfl))
  | ((with_reducible refine' rd_wipe ?h ?_); (case h => rfl))
  | ((with_reducible refine' rd_aug ?h ?_); (case h => rfl))
  | ((with_reducible refine' rv_ixL ?h ?c ?_); (case h => walk_at "sq"); (case c => walk_at "at"))
  | ((with_reducible refine' rv_ixS ?h ?c ?_); (case h => walk_at "sz"); (case c => walk_at "at"))
  | ((with_reducible refine' rv_setL ?h ?c ?_); (case h => walk_at "hp"); (case c => rfl))
  | ((with_reducible refine' rv_mulI ?h ?_); (case h => walk_at "mul"))
  | ((with_reducible refine' rv_mod ?h ?_); (case h => walk_at "nz"))
  | ((with_reducible refine' rv_div ?h ?_); (case h => walk_at "div"))
  | ((with_reducible refine' rv_pow ?h ?_); (case h => exact ⟨by decide, by decide, by decide⟩))
  | ((with_reducible refine' rv_get ?h ?h0 ?c ?_); (case h => walk_at "sq"); (case h0 => omega); (case c => walk_at "at"))
  | ((with_reducible refine' rv_lenL ?h ?_); (case h => walk_at "sq"))
  | ((with_reducible refine' rv_lenS ?h ?_); (case h => walk_at "sz"))
  | ((with_reducible refine' rv_addS ?h ?_); (case h => walk_at "sz"))
  | ((with_reducible refine' rd_tyL ?h ?_); (case h => walk_at "sq"))
  | (with_reducible refine rd_tyS ?_)
  | ((with_reducible refine' rv_inL ?h ?hx ?hf ?_); (case h => walk_at "sq"); (case hx => rfl); (case hf => rfl))
  | ((with_reducible refine' rv_ninL ?h ?hx ?hf ?_); (case h => walk_at "sq"); (case hx => rfl); (case hf => rfl))
  | ((with_reducible refine' rv_all ?h ?_); (case h => walk_at "sq"))
  | ((with_reducible refine' rv_addL ?h1 ?h2 ?h3 (fun p hp => ?_)); (case h1 => walk_at "hp"); (case h2 => walk_at "hp"); (case h3 => walk_at "sz"))
  | (with_reducible refine iteB (fun h => ?_) (fun h => ?_))
  | (refine ⟨rfl, rfl, ?_⟩)
  | ((with_reducible refine' rv_up ?h ?_); (case h => omega))
  | ((with_reducible refine' rv_iL ?h ?_); (case h => walk_at "sq"))
  | ((with_reducible refine' rv_iT ?h ?_); (case h => walk_at "sqt"))
  | ((with_reducible refine' rv_listL ?h (fun p hp => ?_)); (case h => walk_at "sq"))
  | ((with_reducible refine' rv_listT ?h (fun p hp => ?_)); (case h => walk_at "sqt"))
  | ((with_reducible refine' rv_tupL ?h (fun p hp => ?_)); (case h => walk_at "sq"))
  | ((with_reducible refine' rv_tupT ?h ?_); (case h => walk_at "sqt"))
  | ((with_reducible refine' rv_ixT ?h ?c ?_); (case h => walk_at "sqt"); (case c => walk_at "at"))
  | ((with_reducible refine' rd_gtup ?h ?c ?_); (case h => walk_at "sqt"); (case c => rfl))
  | ((with_reducible refine' rv_lenT ?h ?_); (case h => walk_at "sqt"))
  | ((with_reducible refine' rv_isiB ?h ?_); (case h => with_reducible first | exact isi_bool_bool | exact isi_bool_int | exact isi_bool_str | exact isi_bool_list | exact isi_bool_tuple | exact isi_bool_dict))
  | ((with_reducible refine' rv_isiI ?h ?_); (case h => with_reducible first | exact isi_int_bool | exact isi_int_int | exact isi_int_str | exact isi_int_list | exact isi_int_tuple | exact isi_int_dict))
  | ((with_reducible refine' rv_isiS ?h ?_); (case h => with_reducible first | exact isi_str_bool | exact isi_str_int | exact isi_str_str | exact isi_str_list | exact isi_str_tuple | exact isi_str_dict))
  | ((with_reducible refine' rv_isiN ?h ?_); (case h => with_reducible first | exact isi_NoneType_bool | exact isi_NoneType_int | exact isi_NoneType_str | exact isi_NoneType_list | exact isi_NoneType_tuple | exact isi_NoneType_dict))
  | ((with_reducible refine' rv_isiL ?e ?h ?_); (case e => walk_at "hp"); (case h => with_reducible first | exact isi_list_bool | exact isi_list_int | exact isi_list_str | exact isi_list_list | exact isi_list_tuple | exact isi_list_dict))
  | ((with_reducible refine' rv_isiT ?e ?h ?_); (case e => walk_at "hp"); (case h => with_reducible first | exact isi_tuple_bool | exact isi_tuple_int | exact isi_tuple_str | exact isi_tuple_list | exact isi_tuple_tuple | exact isi_tuple_dict))
  | ((with_reducible refine' rv_revL ?h ?_); (case h => walk_at "sq"))
  | (with_reducible refine fun (p : Addr) (hp : _ = none) => ?_)
  | ((with_reducible refine' rv_slL ?h (fun p hp => ?_)); (case h => walk_at "sq"))
  | ((with_reducible refine' rv_slS ?h ?_); (case h => walk_at "sz"))
  | ((with_reducible refine' rv_ext ?h ?h2 ?c ?_); (case h => walk_at "hp"); (case h2 => walk_at "hp"); (case c => walk_at "sz"))
  | (refine ⟨(by simp only [List.length_cons, List.length_nil]; decide), fun p hp => ?_⟩)
  | ((with_reducible refine' rv_app ?h ?c ?_); (case h => walk_at "hp"); (case c => walk_at "sz"))
  )
local macro_rules | `(tactic| walk_at "bag") => `(tactic| first | assumption | (refine ⟨_, _, _, _, _, upd_same, (by assumption), ?hp, (by omega), (by omega)⟩; (case hp => walk_at "hp")) | exact ⟨_, _, _, _, _, (by assumption), (by assumption), (by assumption), (by assumption), (by assumption)⟩ | (refine BagAt.new ?_ (by assumption); walk_at "bag") | (refine BagAt.put ?_ (by assumption) (by assumption); walk_at "bag"))

def cho (f : Nat → Nat → Int) (o : List Nat) (j : Nat) : Int := match (o.take j).filter (fun v => decide (Fst f o v = best f o.length o)) with
  | [] => -1
  | x :: _ => (x : Nat)
theorem cho_zero (f : Nat → Nat → Int) (o : List Nat) : cho f o 0 = -1 := rfl
theorem cho_step (f : Nat → Nat → Int) {o : List Nat} {j v : Nat} (ev : o[j]? = some v) : cho f o (j + 1) = if cho f o j < 0 ∧ Fst f o v = best f o.length o then (v : Int) else cho f o j := by
  unfold cho
  rw [List.take_succ, ev]
  show (match (o.take j ++ [v]).filter _ with | [] => (-1 : Int) | x :: _ => (x : Nat)) = _
  rw [List.filter_append]
  cases h : (o.take j).filter (fun v => decide (Fst f o v = best f o.length o)) with
  | nil =>
    by_cases e : Fst f o v = best f o.length o
    · rw [if_pos ⟨by decide, e⟩, List.nil_append, List.filter_cons, if_pos (decide_eq_true e)]
    · rw [if_neg (fun z => e z.2), List.nil_append, List.filter_cons, if_neg (by simp [e])]; rfl
  | cons x r =>
    rw [if_neg (fun z => by have := z.1; simp only at this; omega)]
    rfl
theorem cho_all (f : Nat → Nat → Int) {o : List Nat} {v : Nat} {r : List Nat} (h : firsts f o = v :: r) : cho f o o.length = (v : Nat) := by
  unfold cho
  rw [List.take_length]
  unfold firsts at h
  rw [h]
def spLeastO : Sp := fun vs H Q _ => ∃ (n : Nat) (l : Addr) (ls : List Addr) (tab : List (List Int)), vs = [.ref l] ∧ n ≤ 9 ∧ TabAt H l ls tab ∧ tab.length = n ∧ (∀ row ∈ tab, row.length = n) ∧ (∀ i, i < n → gT tab i i = 0) ∧ (∀ i j, 0 ≤ gT tab i j) ∧
  ∀ H' x, Same H H' → H' x = some (.tup (natsV (greedy (gT tab) n (List.range n)))) → Q (.ref x) H'
section
variable {P : Program} {w : World} {K : PySem.W.Frag} {mg : Str → Option Value} {base : Heap}
theorem ok_law_least_order (T : Txt K mg) : FnOk P w K mg base CX0 3 T.f_law_least_order T.fd_law_least_order ["rows"] spLeastO := by
  refine T.F_law_least_order.ok sc_law_least_order (fun vs H Q E h => ?_) (fun cdv A outer s H vs Q E hr h => ?_)
  · obtain ⟨n, l, ls, tab, rfl, _⟩ := h
    rfl
  · obtain ⟨n, l, ls, tab, rfl, hn, TA, lt, sq, dg, nn, q⟩ := h
    refine ⟨_, (pss_cons (ps_set (i := 1) sc_law_least_order.nd rfl (by first | exact Or.inl rfl | exact Or.inr rfl) (pe_call (ok_law_table T) (hr.mono (by omega)) (by rfl) T.g_law_table T.F_law_table.kp T.b_law_table .nil pass0 (pa_cons (pv 0) pa_nil)))
   (pss_cons (ps_set (i := 2) sc_law_least_order.nd rfl (by first | exact Or.inl rfl | exact Or.inr rfl) (pe_listRg rfl (by rfl) T.n_list (prg_1 (by rfl) T.n_range (pe_callB (dLen K) (by rfl) T.n_len (by decide +kernel) (pa_cons (pv 0) pa_nil)))))
   (pss_cons (ps_set (i := 3) sc_law_least_order.nd rfl (by first | exact Or.inl rfl | exact Or.inr rfl) (pe_lst pa_nil))
   (pss_cons (ps_for PassesOwn.never rfl (pi_range1 rfl T.n_range (pa_cons (pe_callB (dLen K) (by rfl) T.n_len (by decide +kernel) (pa_cons (pv 0) pa_nil)) pa_nil)) (pg_name (i := 4) sc_law_least_order.nd rfl (by first | exact Or.inl rfl | exact Or.inr rfl))
    (pss_cons (ps_set (i := 5) sc_law_least_order.nd rfl (by first | exact Or.inl rfl | exact Or.inr rfl) (pe_un un_neg pe_int))
    (pss_cons (ps_for PassesOwn.never rfl (dpi_list K (pv 2)) (pg_name (i := 6) sc_law_least_order.nd rfl (by first | exact Or.inl rfl | exact Or.inr rfl))
     (pss_cons (ps_set (i := 7) sc_law_least_order.nd rfl (by first | exact Or.inl rfl | exact Or.inr rfl) (pe_dget (hu_of hr) (pv 1) (pe_callTy (dTuple K) (by rfl) T.n_tuple (by decide +kernel) (pa_cons (pe_lc (own := [("u", 8)]) (g := gName 8) rfl sc_law_least_order.nd  (dpi_list K (pv 2)) (blkOk_by (own := [("u", 8)]) (N := ["rows", "table", "left", "order", "k", "chosen", "v", "total", "u"]) (sc := defScope s_law_least_order) (by decide +kernel)) (fun _ _ _ _ _ => (pg_name (i := 8) sc_law_least_order.nd rfl (by first | exact Or.inl rfl | exact Or.inr rfl))) (fun _ _ _ _ _ => (pts_one (pt_cmpR dNe (pv 8) (pv 6) (nomark _)))) (fun _ _ _ _ _ => (pv 8))) pa_nil)) (fun _ _ => rfl)))
     (pss_cons (ps_for PassesOwn.never rfl (dpi_list K (pv 2)) (pg_name (i := 8) sc_law_least_order.nd rfl (by first | exact Or.inl rfl | exact Or.inr rfl))
      (pss_one (ps_if (pt_cmpR dNe (pv 8) (pv 6) (nomark _))
       (pss_one (ps_set (i := 7) sc_law_least_order.nd rfl (by first | exact Or.inl rfl | exact Or.inr rfl) (pe_op (dAdd K) (pv 7) (pe_ix (dIx K) (pe_ix (dIx K) (pv 0) (pv 6) (fun _ _ => rfl)) (pv 8) (fun _ _ => rfl)))))
       pss_nil)))
     (pss_one (ps_if (PW.pt (pw_and (pt_cmpR dLt (pv 5) pe_int (nomark _)) (pw_and1 (pt_cmpR dEq (pv 7) (pe_dget (hu_of hr) (pv 1) (pe_callTy (dTuple K) (by rfl) T.n_tuple (by decide +kernel) (pa_cons (pv 2) pa_nil)) (fun _ _ => rfl)) (nomark _)))))
      (pss_one (ps_set (i := 5) sc_law_least_order.nd rfl (by first | exact Or.inl rfl | exact Or.inr rfl) (pv 6)))
      pss_nil)))))
    (pss_cons (ps_expr (pe_bm PySem.F.plainAttrs_list PySem.F.slot_list_append PySem.F.type_list_append mt_append (pv 3) (pa_cons (pv 5) pa_nil)))
    (pss_one (ps_setLc (i := 2) (own := [("u", 8)]) (g := gName 8) rfl sc_law_least_order.nd rfl rfl (sw_true rfl rfl rfl (by decide +kernel)) (dpi_list K (pv 2)) (blkOk_by (own := [("u", 8)]) (N := ["rows", "table", "left", "order", "k", "chosen", "v", "total", "u"]) (sc := defScope s_law_least_order) (by decide +kernel)) (fun _ _ _ _ _ => (pg_name (i := 8) sc_law_least_order.nd rfl (by first | exact Or.inl rfl | exact Or.inr rfl))) (fun _ _ _ _ _ => (pts_one (pt_cmpR dNe (pv 8) (pv 5) (nomark _)))) (fun _ _ _ _ _ => (pv 8))))))))
   (pss_one (ps_ret (pe_callTy (dTuple K) (by rfl) T.n_tuple (by decide +kernel) (pa_cons (pv 3) pa_nil)))))))), ?_⟩
    walk_at "rd"
    refine ⟨n, l, ls, tab, rfl, hn, TA, lt, sq, dg, nn, fun H2 d s2 hd ed => ?_⟩
    have TA2 := TA.same s2
    have el2 := TA2.tb
    have ll := TA2.len
    have lml : (ls.map V.ref).length = n := by rw [List.length_map]; omega
    walk_at "rd"
    rw [lml]
    refine ⟨RgOk.of_le (by omega) (by omega) (by omega) (by omega), fun z hz => ?_⟩
    rw [rg_nats]
    have s3 := same_upd hz (o := .lst (natsV (List.range n)))
    have ez := upd_same (H := H2) (a := z) (o := .lst (natsV (List.range n)))
    generalize upd H2 z (.lst (natsV (List.range n))) = H3 at s3 ez ⊢
    have ed3 := s3 _ _ ed
    have TA3 := TA2.same s3
    have el3 := TA3.tb
    walk_at "rd"
    rename_i L hL
    refine ⟨_, rfl, by omega, by omega, ?_⟩
    rw [lml, show ((n : Nat) : Int).toNat = n from by omega]
    have gs : ∀ b o', H3 b = some o' → b ∉ [L] := fun b o' e h => by
      rw [List.mem_singleton.mp h, hL] at e; cases e
    refine for_range (lo := 0) (n := n) (fun k σ H' => ∃ (lf : Addr) (o fin : List Nat) (x4 x5 x6 x7 x8 : Option V), σ = [some (.ref l), some (.ref d), some (.ref lf), some (.ref L), x4, x5, x6, x7, x8] ∧ o ∈ subs n ∧ o.length + k = n ∧ OffS [L] H3 H' ∧ H' L = some (.lst (natsV fin)) ∧ H' lf = some (.lst (natsV o)) ∧ lf ≠ L ∧ fin.length ≤ k ∧ greedy (gT tab) n (List.range n) = fin ++ greedy (gT tab) o.length o)
      ⟨z, List.range n, [], _, _, _, _, _, rfl, subs_range n, by rw [List.length_range]; rfl, (OffS.refl _ _).new hL, upd_same, hp_new hL ez, (fun e => by rw [e, hL] at ez; cases ez), Nat.le_refl _, by rw [List.length_range]; rfl⟩ ?_ ?_
    · rintro k σ H5 hk ⟨lf, o, fin, x4, x5, x6, x7, x8, rfl, om, ol, f5, eL, elf, nlf, fl, eg⟩
      have ho : o ≠ [] := fun e => by rw [e] at ol; simp at ol; omega
      have nd := subs_nd n o om
      have lt' := subs_lt n o om
      have lo := subs_le n o om
      have zo : ∀ v ∈ o, gT tab v v = 0 := fun v hv => dg v (lt' v hv)
      have ed5 := f5 _ _ (gs _ _ ed3) ed3
      have TA5 : TabAt H5 l ls tab := TA3.offs f5 (gs _ _ el3) fun r hr => by
        obtain ⟨ys, e⟩ := TabAt.lsts TA3 r (List.mem_cons_of_mem _ hr)
        exact gs _ _ e
      obtain ⟨i1, e1'⟩ := List.getElem?_of_mem om
      obtain ⟨v0, rest, ef, hv0, _⟩ := first_of (gT tab) nd zo ho
      walk_at "rd"
      refine for_list (K := K) (a := lf) (xs := natsV o) (fun j σ H' => ∃ (x6 x7 x8 : Option V), σ = [some (.ref l), some (.ref d), some (.ref lf), some (.ref L), some (.int (0 + (k : Int))), some (.int (cho (gT tab) o j)), x6, x7, x8] ∧ Same H5 H') ⟨_, _, _, rfl, fun _ _ e => e⟩ (fun j σ H' _ h => by
        obtain ⟨_, _, _, _, s⟩ := h
        exact SqL.of (s _ _ elf)) ?_ ?_
      · rintro j x σ H6 hj ⟨x6, x7, x8, rfl, s6⟩
        rw [natsV_get] at hj
        obtain ⟨v, ev, rfl⟩ := Option.map_eq_some_iff.mp hj
        have hv := List.mem_of_getElem? ev
        have vn := lt' v hv
        have elf6 := s6 _ _ elf
        have ed6 := s6 _ _ ed5
        have TA6 := TA5.same s6
        obtain ⟨j2, hj2, e2⟩ := sub_before n i1 o e1' v hv
        walk_at "rd"
        refine rd_lc ?_
        walk_at "rd"
        refine lc_pureF (walk_list (K := K) (a := lf) (xs := natsV o)) (fun j => decide (o.getD j 0 ≠ v)) (fun j => .int (o.getD j 0 : Nat)) (by rw [natsV_len]; omega) (fun H' s => SqL.of (s _ _ elf6)) same_at ?_ ?_
        · rintro j x' H' H7 Nx E hj s7 s7' ⟨rfl, hx⟩ hN hE
          rw [natsV_len] at hj
          rw [natsV_get, List.getElem?_eq_getElem hj] at hx
          cases hx
          have gj : o.getD j 0 = o[j] := getD_of (List.getElem?_eq_getElem hj)
          rw [gj] at hN hE
          walk_at "rd"
          · exact hN (decide_eq_true (by omega)) _ fun _ _ e => e
          · exact hE (decide_eq_false (by omega)) _ fun _ _ e => e
        · intro D2 H7 hD2 s7 e7
          rw [natsV_len, range_filter_map o 0 (fun k => decide (k ≠ v)) (fun k => V.int (k : Nat))] at e7
          replace e7 : H7 D2 = some (.lst (natsV (o.filter fun k => decide (k ≠ v)))) := e7
          walk_at "rd"
          rename_i u hu
          have eu := upd_same (H := H7) (a := u) (o := .tup (natsV (o.filter fun k => decide (k ≠ v))))
          have s8 := s7.trans (same_upd hu (o := .tup (natsV (o.filter fun k => decide (k ≠ v)))))
          generalize upd H7 u (.tup (natsV (o.filter fun k => decide (k ≠ v)))) = H8 at eu s8 ⊢
          have ed8 := s8 _ _ ed6
          have elf8 := s8 _ _ elf6
          have TA8 := TA6.same s8
          refine rv_dget (v := .int (best (gT tab) (o.filter fun k => decide (k ≠ v)).length (o.filter fun k => decide (k ≠ v)))) ?_ ?_
          · rw [← valV_subs (fun o => V.int (best (gT tab) o.length o)) _ (subs n) (List.mem_of_getElem? e2)]
            exact DGet.t ed8 (by rw [eu, kk_nats])
          walk_at "rd"
          refine for_list (K := K) (a := lf) (xs := natsV o) (fun j' σ H' => ∃ (t : Int) (x8 : Option V), σ = [some (.ref l), some (.ref d), some (.ref lf), some (.ref L), some (.int (0 + (k : Int))), some (.int (cho (gT tab) o j)), some (.int v), some (.int t), x8] ∧ H' = H8 ∧ t + ((o.drop j').map fun u => gT tab v u).sum = Fst (gT tab) o v)
            ⟨_, _, rfl, rfl, by rw [List.drop_zero]; rfl⟩ (fun k σ H' _ h => by
              obtain ⟨_, _, _, rfl, _⟩ := h
              exact SqL.of elf8) ?_ ?_
          · rintro j' y σ H9 hj' ⟨t, x8, rfl, rfl, et⟩
            rw [natsV_get] at hj'
            obtain ⟨w', ew, rfl⟩ := Option.map_eq_some_iff.mp hj'
            have wn := lt' w' (List.mem_of_getElem? ew)
            have hj'' := (List.getElem?_eq_some_iff.mp ew).1
            have dr : o.drop j' = w' :: o.drop (j' + 1) := by rw [List.drop_eq_getElem_cons hj'', (List.getElem?_eq_some_iff.mp ew).2]
            rw [dr, List.map_cons, List.sum_cons] at et
            obtain ⟨r, er, ehr, ar⟩ := TA8.get (List.getElem?_eq_getElem (show v < tab.length by omega))
            have el8 := TA8.tb
            have av := row_at lt sq vn wn
            walk_at "rd"
            · exact ⟨_, _, rfl, rfl, by omega⟩
            · rename_i h
              have : w' = v := by omega
              subst this
              rw [zo w' hv] at et
              exact ⟨_, _, rfl, rfl, by omega⟩
          · rintro σ H9 ⟨t, x8, rfl, rfl, et⟩
            rw [natsV_len, List.drop_length] at et
            have et : t = Fst (gT tab) o v := by
              have : (([] : List Nat).map fun u => gT tab v u).sum = 0 := rfl
              omega
            subst et
            have cs := cho_step (gT tab) ev
            walk_at "rd"
            · rename_i h1 z2 hz2
              refine rv_dget (v := .int (best (gT tab) o.length o)) ?_ ?_
              · rw [← valV_subs (fun o => V.int (best (gT tab) o.length o)) _ (subs n) om]
                exact DGet.t (hp_new hz2 ed8) (by rw [upd_same, kk_nats])
              have s9 := s6.trans (s8.trans (same_upd hz2 (o := .tup (natsV o))))
              walk_at "rd"
              · rename_i h2
                rw [if_pos ⟨h1, h2⟩] at cs
                rw [cs]
                exact ⟨_, _, _, rfl, s9⟩
              · rename_i h2
                rw [if_neg (fun z => h2 z.2)] at cs
                rw [cs]
                exact ⟨_, _, _, rfl, s9⟩
            · rename_i h1
              rw [if_neg (fun z => h1 z.1)] at cs
              rw [cs]
              exact ⟨_, _, _, rfl, s6.trans s8⟩
      · rintro σ H6 ⟨x6, x7, x8, rfl, s6⟩
        rw [natsV_len, cho_all (gT tab) ef]
        have eL6 := s6 _ _ eL
        have elf6 := s6 _ _ elf
        have nfl := natsV_len fin
        walk_at "rd"
        have eLn : (upd H6 L (.lst (natsV fin ++ [V.int v0]))) L = some (.lst (natsV (fin ++ [v0]))) := by
          rw [upd_same]; unfold natsV; rw [List.map_append]; rfl
        have elf7 : (upd H6 L (.lst (natsV fin ++ [V.int v0]))) lf = some (.lst (natsV o)) := (upd_ne nlf).trans elf6
        have f7 : OffS [L] H3 (upd H6 L (.lst (natsV fin ++ [V.int v0]))) := (f5.same s6).set (by simp)
        generalize upd H6 L (.lst (natsV fin ++ [V.int v0])) = H7 at eLn elf7 f7 ⊢
        refine rd_lc ?_
        walk_at "rd"
        refine lc_pureF (walk_list (K := K) (a := lf) (xs := natsV o)) (fun j => decide (o.getD j 0 ≠ v0)) (fun j => .int (o.getD j 0 : Nat)) (by rw [natsV_len]; omega) (fun H' s => SqL.of (s _ _ elf7)) same_at ?_ ?_
        · rintro j x' H' H8 Nx E hj s7 s7' ⟨rfl, hx⟩ hN hE
          rw [natsV_len] at hj
          rw [natsV_get, List.getElem?_eq_getElem hj] at hx
          cases hx
          have gj : o.getD j 0 = o[j] := getD_of (List.getElem?_eq_getElem hj)
          rw [gj] at hN hE
          walk_at "rd"
          · exact hN (decide_eq_true (by omega)) _ fun _ _ e => e
          · exact hE (decide_eq_false (by omega)) _ fun _ _ e => e
        · intro D2 H8 hD2 s8 e8
          rw [natsV_len, range_filter_map o 0 (fun k => decide (k ≠ v0)) (fun k => V.int (k : Nat))] at e8
          replace e8 : H8 D2 = some (.lst (natsV (o.filter fun k => decide (k ≠ v0)))) := e8
          obtain ⟨j2, _, e2⟩ := sub_before n i1 o e1' v0 hv0
          have fl2 := filter_ne_len nd hv0
          have gs2 : greedy (gT tab) o.length o = v0 :: greedy (gT tab) (o.filter fun k => decide (k ≠ v0)).length (o.filter fun k => decide (k ≠ v0)) := by
            rw [← fl2]
            show (firsts (gT tab) o).headD 0 :: greedy (gT tab) _ (o.filter fun x => decide (x ≠ (firsts (gT tab) o).headD 0)) = _
            rw [ef, List.headD_cons]
          walk_at "rd"
          refine ⟨D2, o.filter fun k => decide (k ≠ v0), fin ++ [v0], _, _, _, _, _, rfl, List.mem_of_getElem? e2, by omega, f7.same s8, s8 _ _ eLn, e8, (fun e => by rw [e, eLn] at hD2; cases hD2), by rw [List.length_append, List.length_singleton]; omega, ?_⟩
          rw [eg, gs2, List.append_assoc]; rfl
    · rintro σ H5 ⟨lf, o, fin, x4, x5, x6, x7, x8, rfl, om, ol, f5, eL, elf, nlf, fl, eg⟩
      have : o = [] := List.length_eq_zero_iff.mp (by omega)
      subst this
      rw [show greedy (gT tab) ([] : List Nat).length [] = [] from rfl, List.append_nil] at eg
      rw [← eg] at eL
      walk_at "rd"
      rename_i y hy
      exact q _ y (fun b o' e => hp_new hy (f5 _ _ (gs _ _ (s3 _ _ (s2 _ _ e))) (s3 _ _ (s2 _ _ e)))) upd_same
end
end K29
namespace K29
open PySem PySem.Spec PyProof.Rows L2 D0
local macro_rules | `(tactic| walk_at "neB") => `(tactic| with_reducible first | assumption | (apply Ne.symm; assumption) | (refine' BagAt.ne ?x ?h; (case h => assumption); (case x => assumption)))
local macro_rules | `(tactic| walk_at "hq") => `(tactic| with_reducible first | assumption | exact upd_same | ((first | (refine' hp_new ?nn ?hq; (case nn => assumption)) | (refine' Off.get ?f ?ne ?hq; (case f => assumption); (case ne => walk_at "neB"))); (case hq => walk_at "hq")))
local macro_rules | `(tactic| walk_at "neA") => `(tactic| with_reducible first | (refine' BagAt.ne ?x ?h; (case h => assumption); (case x => assumption)) | (refine' ne_of_none ?x ?h; (case h => assumption); (case x => walk_at "hq")))
local macro_rules | `(tactic| walk_at "ne") => `(tactic| with_reducible first | assumption | (apply Ne.symm; assumption) | walk_at "neA" | (apply Ne.symm; walk_at "neA"))
local macro_rules | `(tactic| walk_at "off") => `(tactic| with_reducible repeat' (first | assumption | exact Off.refl _ _ | apply Off.set | (refine' Off.new ?_ ?h; (case h => assumption)) | (refine' Off.trans ?_ ?f; (case f => assumption))))
local macro_rules | `(tactic| walk_at "hp") => `(tactic| with_reducible first | assumption | exact upd_same | ((first | (refine' hp_new ?nn ?hp; (case nn => assumption)) | (refine' hp_set ?ne ?hp; (case ne => walk_at "ne")) | (refine' Off.get ?f ?ne ?hp; (case f => assumption); (case ne => walk_at "ne"))); (case hp => walk_at "hp")))
local macro_rules | `(tactic| walk_at "sq") => `(tactic| with_reducible first | assumption | (refine' SqL.of ?hh; (case hh => walk_at "hp")) | ((first | (refine' sq_new ?nn ?sq; (case nn => assumption)) | (refine' sq_set ?ne ?sq; (case ne => walk_at "ne")) | (refine' Off.seq ?f ?ne ?sq; (case f => assumption); (case ne => walk_at "ne"))); (case sq => walk_at "sq")))
local macro_rules | `(tactic| walk_at "sqt") => `(tactic| with_reducible first | assumption | (refine' SqT.of ?hh; (case hh => walk_at "hp")) | ((first | (refine' sqt_new ?nn ?sq; (case nn => assumption)) | (refine' sqt_set ?ne ?sq; (case ne => walk_at "ne")) | (refine' Off.seqT ?f ?ne ?sq; (case f => assumption); (case ne => walk_at "ne"))); (case sq => walk_at "sqt")))
/- straight-line steps of a reading -/
local macro_rules | `(tactic| walk_at "at") => `(tactic| first | assumption | rfl | exact atI_nat (j := 0) rfl | exact atI_nat (j := 1) rfl | exact atI_nat (j := 2) rfl | exact at_ints (by omega) (by omega))
local macro_rules | `(tactic| walk_at "sz") => `(tactic| first | assumption | decide | exact sz4 (by omega) | exact sz4' (by omega) | (simp only [List.length_map, List.length_append, List.length_cons, List.length_nil, List.length_range, List.length_replicate]; first | exact sz4 (by omega) | exact sz4' (by omega) | omega))
local macro_rules | `(tactic| walk_at "mul") => `(tactic| first | exact .inr ⟨by decide, by decide⟩ | exact mul_fm (by decide) (by decide) | exact .inl ⟨by omega, by omega⟩ | exact .inr ⟨by omega, by omega⟩)
local macro_rules | `(tactic| walk_at "div") => `(tactic| with_reducible first | exact div97 | exact div3 | exact div2 | exact div_m (by assumption) (by assumption))
local macro_rules | `(tactic| walk_at "nz") => `(tactic| first | decide | omega)
local macro_rules | `(tactic| walk_at "rd") => `(tactic| repeat' walk_at "rd1")
local macro_rules | `(tactic| walk_at "rdA") => `(tactic| with_reducible first
  | refine rd_op ?_
  | refine rd_c ?_
  | refine rd_cb ?_
  | refine rd_cons ?_
  | refine rd_nil ?_
  | refine rd_bl ?_
  | refine rd_ii ?_
  | refine rd_M1 ?_
  | refine rd_M0 ?_
  | refine rd_isS ?_
  | refine rd_test ?_
  | refine rd_B ?_
  | refine rd_and ?_
  | refine rd_or ?_
  | refine rd_not ?_
  | refine rd_andV ?_
  | refine rd_orV ?_
  | refine rd_notV ?_
  | refine rd_ifE ?_
  | refine rd_chain ?_
  | refine rd_seq ?_
  | refine rd_if ?_
  | refine rd_asg ?_
  | refine rd_gname ?_
  | refine rd_gsub ?_
  | refine rd_drop ?_
  | refine rd_ret ?_
  | refine rd_retN ?_
  | refine rd_brk ?_
  | refine rd_cnt ?_
  | refine rd_next ?_
  | refine rd_tup ?_
  | refine rd_lst ?_
  | refine rd_BM ?_
  | refine rd_gcons ?_
  | refine rd_gnil ?_
  | refine rd_sl ?_
  | refine rd_nopart ?_
  | refine rd_part ?_
  | refine rd_un ?_
  | refine rd_call ?_
  | refine rd_callN ?_
  | refine rd_fld ?_
  | refine rd_sfld ?_
  | refine rd_meth ?_
  | refine rd_make ?_
  | refine rd_stat ?_
  | refine rv_stat ?_
  | refine rd_lenSet ?_
  | refine rd_dget ?_
  | refine rd_din ?_
  | refine rd_dnin ?_
  | refine rd_dput ?_
  | refine rd_dnewK ?_
  | refine rd_dnewT ?_
  | refine rd_listRg ?_
  | refine rd_rg1 ?_
  | refine rd_rg2 ?_
  | refine rv_i2 ?_
  | refine rd_yes ?_
  | refine rd_iList ?_
  | refine rd_iTup ?_
  | refine rd_augS ?_
  | refine rv_ipI ?_
  | refine rd_zipA ?_
  | refine rd_enumT ?_
  | refine rd_for ?_
  | refine rd_rng1 ?_
  | refine rd_revL ?_
  | refine rv_addI ?_
  | refine rv_sub ?_
  | refine rv_lt ?_
  | refine rv_le ?_
  | refine rv_gt ?_
  | refine rv_ge ?_
  | refine rv_eqI ?_
  | refine rv_neI ?_
  | refine rv_eqS ?_
  | refine rv_eqB ?_
  | refine rv_neS ?_
  | refine rv_neB ?_
  | refine rv_int ?_
  | refine rv_inS ?_
  | refine rv_isNn ?_
  | refine rv_isNr ?_
  | refine rv_isNi ?_
  | refine rv_isNb ?_
  | refine rv_isNs ?_
  | refine rv_notNn ?_
  | refine rv_notNr ?_
  | refine rv_notNi ?_
  | refine rv_ninS ?_
  | refine rv_abs ?_
  | refine rv_max2 ?_
  | refine rv_min2 ?_
  | refine rv_ord ?_
  | refine rv_neg ?_
  | refine iteT ?_
  | refine iteF ?_
  | refine iteD (fun h => ?_) (fun h => ?_)
  | refine iteND (fun h => ?_) (fun h => ?_))
local macro_rules | `(tactic| walk_at "rd1") => `(tactic| first
  | ((with_reducible refine' rd_andB ?h ?_); (case h => (intro Qe hq; walk_at "rd"; exact hq)))
  | ((with_reducible refine' rd_orB ?h ?_); (case h => (intro Qe hq; walk_at "rd"; exact hq)))
  | walk_at "rdA"
  | ((with_reducible refine' rd_var ?h ?_); (case h => rfl))
  | ((with_reducible refine' rd_wipe ?h ?_); (case h => rfl))
  | ((with_reducible refine' rd_aug ?h ?_); (case h => rfl))
  | ((with_reducible refine' rv_ixL ?h ?c ?_); (case h => walk_at "sq"); (case c => walk_at "at"))
  | ((with_reducible refine' rv_ixS ?h ?c ?_); (case h => walk_at "sz"); (case c => walk_at "at"))
  | ((with_reducible refine' rv_setL ?h ?c ?_); (case h => walk_at "hp"); (case c => rfl))
  | ((with_reducible refine' rv_mulI ?h ?_); (case h => walk_at "mul"))
  | ((with_reducible refine' rv_mod ?h ?_); (case h => walk_at "nz"))
  | ((with_reducible refine' rv_div ?h ?_); (case h => walk_at "div"))
  | ((with_reducible refine' rv_pow ?h ?_); (case h => exact ⟨by decide, by decide, by decide⟩))
  | ((with_reducible refine' rv_get ?h ?h0 ?c ?_); (case h => walk_at "sq"); (case h0 => omega); (case c => walk_at "at"))
  | ((with_reducible refine' rv_lenL ?h ?_); (case h => walk_at "sq"))
  | ((with_reducible refine' rv_lenS ?h ?_); (case h => walk_at "sz"))
  | ((with_reducible refine' rv_addS ?h ?_); (case h => walk_at "sz"))
  | ((with_reducible refine' rd_tyL ?h ?_); (case h => walk_at "sq"))
  | (with_reducible refine rd_tyS ?_)
  | ((with_reducible refine' rv_inL ?h ?hx ?hf ?_); (case h => walk_at "sq"); (case hx => rfl); (case hf => rfl))
  | ((with_reducible refine' rv_ninL ?h ?hx ?hf ?_); (case h => walk_at "sq"); (case hx => rfl); (case hf => rfl))
  | ((with_reducible refine' rv_all ?h ?_); (case h => walk_at "sq"))
  | ((with_reducible refine' rv_addL ?h1 ?h2 ?h3 (fun p hp => ?_)); (case h1 => walk_at "hp"); (case h2 => walk_at "hp"); (case h3 => walk_at "sz"))
  | (with_reducible refine iteB (fun h => ?_) (fun h => ?_))
  | (refine ⟨rfl, rfl, ?_⟩)
  | ((with_reducible refine' rv_up ?h ?_); (case h => omega))
  | ((with_reducible refine' rv_iL ?h ?_); (case h => walk_at "sq"))
  | ((with_reducible refine' rv_iT ?h ?_); (case h => walk_at "sqt"))
  | ((with_reducible refine' rv_listL ?h (fun p hp => ?_)); (case h => walk_at "sq"))
  | ((with_reducible refine' rv_listT ?h (fun p hp => ?_)); (case h => walk_at "sqt"))
  | ((with_reducible refine' rv_tupL ?h (fun p hp => ?_)); (case h => walk_at "sq"))
  | ((with_reducible refine' rv_tupT ?h ?_); (case h => walk_at "sqt"))
  | ((with_reducible refine' rv_ixT ?h ?c ?_); (case h => walk_at "sqt"); (case c => walk_at "at"))
  | ((with_reducible refine' rd_gtup ?h ?c ?_); (case h => walk_at "sqt"); (case c => rfl))
  | ((with_reducible refine' rv_lenT ?h ?_); (case h => walk_at "sqt"))
  | ((with_reducible refine' rv_isiB ?h ?_); (case h => with_reducible first | exact isi_bool_bool | exact isi_bool_int | exact isi_bool_str | exact isi_bool_list | exact isi_bool_tuple | exact isi_bool_dict))
  | ((with_reducible refine' rv_isiI ?h ?_); (case h => with_reducible first | exact isi_int_bool | exact isi_int_int | exact isi_int_str | exact isi_int_list | exact isi_int_tuple | exact isi_int_dict))
  | ((with_reducible refine' rv_isiS ?h ?_); (case h => with_reducible first | exact isi_str_bool | exact isi_str_int | exact isi_str_str | exact isi_str_list | exact isi_str_tuple | exact isi_str_dict))
  | ((with_reducible refine' rv_isiN ?h ?_); (case h => with_reducible first | exact isi_NoneType_bool | exact isi_NoneType_int | exact isi_NoneType_str | exact isi_NoneType_list | exact isi_NoneType_tuple | exact isi_NoneType_dict))
  | ((with_reducible refine' rv_isiL ?e ?h ?_); (case e => walk_at "hp"); (case h => with_reducible first | exact isi_list_bool | exact isi_list_int | exact isi_list_str | exact isi_list_list | exact isi_list_tuple | exact isi_list_dict))
  | ((with_reducible refine' rv_isiT ?e ?h ?_); (case e => walk_at "hp"); (case h => with_reducible first | exact isi_tuple_bool | exact isi_tuple_int | exact isi_tuple_str | exact isi_tuple_list | exact isi_tuple_tuple | exact isi_tuple_dict))
  | ((with_reducible refine' rv_revL ?h ?_); (case h => walk_at "sq"))
  | (with_reducible refine fun (p : Addr) (hp : _ = none) => ?_)
  | ((with_reducible refine' rv_slL ?h (fun p hp => ?_)); (case h => walk_at "sq"))
  | ((with_reducible refine' rv_slS ?h ?_); (case h => walk_at "sz"))
  | ((with_reducible refine' rv_ext ?h ?h2 ?c ?_); (case h => walk_at "hp"); (case h2 => walk_at "hp"); (case c => walk_at "sz"))
  | (refine ⟨(by simp only [List.length_cons, List.length_nil]; decide), fun p hp => ?_⟩)
  | ((with_reducible refine' rv_app ?h ?c ?_); (case h => walk_at "hp"); (case c => walk_at "sz"))
  )
local macro_rules | `(tactic| walk_at "bag") => `(tactic| first | assumption | (refine ⟨_, _, _, _, _, upd_same, (by assumption), ?hp, (by omega), (by omega)⟩; (case hp => walk_at "hp")) | exact ⟨_, _, _, _, _, (by assumption), (by assumption), (by assumption), (by assumption), (by assumption)⟩ | (refine BagAt.new ?_ (by assumption); walk_at "bag") | (refine BagAt.put ?_ (by assumption) (by assumption); walk_at "bag"))

def ext (n : Nat) (o : List Nat) : List (List Nat) := ((List.range n).filter fun v => decide (v ∉ o)).map fun v => o ++ [v]
theorem ords_succ (n k : Nat) : ordsK n (k + 1) = (ordsK n k).flatMap (ext n) := rfl
theorem flat_len {α β : Type} {g : α → List β} {n : Nat} (h : ∀ a, (g a).length ≤ n) : ∀ l : List α, (l.flatMap g).length ≤ l.length * n
  | [] => by simp
  | a :: l => by
    rw [List.flatMap_cons, List.length_append, List.length_cons, Nat.succ_mul]
    have := h a
    have := flat_len h l
    omega
theorem ext_len (n : Nat) (o : List Nat) : (ext n o).length ≤ n := by
  unfold ext
  rw [List.length_map]
  have := List.length_filter_le (fun v => decide (v ∉ o)) (List.range n)
  rw [List.length_range] at this
  exact this
theorem ords_len {n : Nat} (hn : n ≤ 5) : ∀ k, (ordsK n k).length ≤ 5 ^ k
  | 0 => Nat.le_refl _
  | k + 1 => by
    have h1 := flat_len (ext_len n) (ordsK n k)
    have h2 := ords_len hn k
    rw [ords_succ, Nat.pow_succ]
    exact Nat.le_trans h1 (Nat.mul_le_mul h2 hn)
theorem rv_ninT {K : PySem.W.Frag} {H : Hp} {Q : VK} {p : Addr} {v : Nat} {o : List Nat} (h : H p = some (.tup (natsV o))) (q : Q (.bl (decide (v ∉ o))) H) : rInD K true (.int v) (.ref p) H Q := by
  have e : natsV o = (o.map fun k : Nat => (k : Int)).map V.int := natsV_eq o
  refine .inl ⟨p, natsV o, rfl, .inr (SqT.of h), rfl, ?_, ?_⟩
  · rw [e, List.all_map]; exact List.all_eq_true.mpr fun _ _ => rfl
  · have : (!inV (.int v) (natsV o)) = decide (v ∉ o) := by
      rw [e, inV_ints]
      by_cases hv : v ∈ o
      · rw [decide_eq_true (List.mem_map.mpr ⟨v, hv, rfl⟩), decide_eq_false (fun z => z hv)]; rfl
      · rw [decide_eq_false (fun z => by obtain ⟨y, hy, e⟩ := List.mem_map.mp z; exact hv (by rw [← Int.ofNat.inj e]; exact hy)), decide_eq_true hv]; rfl
    rw [this]; exact q
def spAllO : Sp := fun vs H Q _ => ∃ (n : Nat), vs = [.int n] ∧ n ≤ 5 ∧ ∀ H' D qs, Same H H' → H' D = some (.lst (qs.map V.ref)) → Paired (fun x o => H' x = some (.tup (natsV o))) qs (ordsK n n) → Q (.ref D) H'
section
variable {P : Program} {w : World} {K : PySem.W.Frag} {mg : Str → Option Value} {base : Heap}
theorem ok_law_all_orders (T : Txt K mg) : FnOk P w K mg base CX0 1 T.f_law_all_orders T.fd_law_all_orders ["size"] spAllO := by
  refine T.F_law_all_orders.ok sc_law_all_orders (fun vs H Q E h => ?_) (fun cdv A outer s H vs Q E hr h => ?_)
  · obtain ⟨n, rfl, _⟩ := h
    rfl
  · obtain ⟨n, rfl, hn, q⟩ := h
    refine ⟨_, (pss_cons (ps_set (i := 1) sc_law_all_orders.nd rfl (by first | exact Or.inl rfl | exact Or.inr rfl) (pe_lst (pa_cons (pe_tup pa_nil) pa_nil)))
   (pss_cons (ps_for PassesOwn.never rfl (pi_range1 rfl T.n_range (pa_cons (pv 0) pa_nil)) (pg_name (i := 2) sc_law_all_orders.nd rfl (by first | exact Or.inl rfl | exact Or.inr rfl))
    (pss_cons (ps_set (i := 3) sc_law_all_orders.nd rfl (by first | exact Or.inl rfl | exact Or.inr rfl) (pe_lst pa_nil))
    (pss_cons (ps_for PassesOwn.never rfl (dpi_list K (pv 1)) (pg_name (i := 4) sc_law_all_orders.nd rfl (by first | exact Or.inl rfl | exact Or.inr rfl))
     (pss_one (ps_for PassesOwn.never rfl (pi_range1 rfl T.n_range (pa_cons (pv 0) pa_nil)) (pg_name (i := 5) sc_law_all_orders.nd rfl (by first | exact Or.inl rfl | exact Or.inr rfl))
      (pss_one (ps_if (pt_cmpR (dNin K) (pv 5) (pv 4) (by rfl))
       (pss_one (ps_expr (pe_bm PySem.F.plainAttrs_list PySem.F.slot_list_append PySem.F.type_list_append mt_append (pv 3) (pa_cons (pe_op (dCatA K) (pv 4) (pe_tup (pa_cons (pv 5) pa_nil))) pa_nil))))
       pss_nil)))))
    (pss_one (ps_set (i := 1) sc_law_all_orders.nd rfl (by first | exact Or.inl rfl | exact Or.inr rfl) (pe_callTy (dList K) (by rfl) T.n_list (by decide +kernel) (pa_cons (pv 3) pa_nil)))))))
   (pss_one (ps_ret (pv 1))))), ?_⟩
    walk_at "rd"
    rename_i e he D hD
    refine ⟨_, rfl, by omega, by omega, ?_⟩
    rw [show ((n : Int)).toNat = n from by omega]
    refine for_range (lo := 0) (n := n) (fun k σ H' => ∃ (D : Addr) (qs : List Addr) (x2 x3 x4 x5 : Option V), σ = [some (.int n), some (.ref D), x2, x3, x4, x5] ∧ Same H H' ∧ H' D = some (.lst (qs.map V.ref)) ∧ Paired (fun x o => H' x = some (.tup (natsV o))) qs (ordsK n k)) ⟨D, [e], _, _, _, _, rfl, (same_upd he).trans (same_upd hD), upd_same, .cons (hp_new hD upd_same) .nil⟩ ?_ ?_
    · rintro k σ H1 hk ⟨D, qs, x2, x3, x4, x5, rfl, s1, eD, pq⟩
      have lq : qs.length = (ordsK n k).length := Paired.len pq
      have lk : (ordsK n k).length ≤ 3125 := Nat.le_trans (ords_len hn k) (Nat.pow_le_pow_right (by decide) (by omega : k ≤ 5))
      walk_at "rd"
      rename_i L hL
      have LD : D ≠ L := fun e => by rw [e, hL] at eD; cases eD
      have gs : ∀ {b : Addr} {o' : HO}, H1 b = some o' → b ∉ [L] := fun e h => by
        rw [List.mem_singleton.mp h, hL] at e; cases e
      refine for_list (K := K) (a := D) (xs := qs.map V.ref) (fun i σ H' => ∃ (rs : List Addr) (x4 x5 : Option V), σ = [some (.int n), some (.ref D), some (.int (0 + (k : Int))), some (.ref L), x4, x5] ∧ OffS [L] H1 H' ∧ H' L = some (.lst (rs.map V.ref)) ∧ Paired (fun x o => H' x = some (.tup (natsV o))) rs (((ordsK n k).take i).flatMap (ext n))) ⟨[], _, _, rfl, (OffS.refl _ _).new hL, upd_same, .nil⟩ (fun i σ H' _ h => by
        obtain ⟨_, _, _, _, f, _⟩ := h
        exact SqL.of (f _ _ (gs eD) eD)) ?_ ?_
      · rintro i x σ H2 hi ⟨rs, x4, x5, rfl, f2, eL, pr⟩
        rw [List.getElem?_map] at hi
        obtain ⟨a, ea, rfl⟩ := Option.map_eq_some_iff.mp hi
        obtain ⟨o, eo, ha⟩ := Paired.get1 pq ea
        have ha2 := f2 _ _ (gs ha) ha
        have ol := ((ords_mem n k o).mp (List.mem_of_getElem? eo)).1
        have ll := flat_len (ext_len n) ((ordsK n k).take i)
        have lt : ((ordsK n k).take i).length ≤ 3125 := by rw [List.length_take]; omega
        have ln : ((ordsK n k).take i).length * n ≤ 3125 * 5 := Nat.mul_le_mul lt hn
        walk_at "rd"
        refine ⟨_, rfl, by omega, by omega, ?_⟩
        rw [show ((n : Int)).toNat = n from by omega]
        refine for_range (lo := 0) (n := n) (fun j σ H' => ∃ (rs : List Addr) (x5 : Option V), σ = [some (.int n), some (.ref D), some (.int (0 + (k : Int))), some (.ref L), some (.ref a), x5] ∧ OffS [L] H1 H' ∧ H' L = some (.lst (rs.map V.ref)) ∧ Paired (fun x o => H' x = some (.tup (natsV o))) rs (((ordsK n k).take i).flatMap (ext n) ++ ((List.range j).filter fun v => decide (v ∉ o)).map fun v => o ++ [v])) ⟨rs, _, rfl, f2, eL, by simpa using pr⟩ ?_ ?_
        · rintro j σ H3 hj ⟨rs, x5, rfl, f3, eL3, pr3⟩
          rw [show (0 : Int) + (j : Int) = j by omega]
          have ha3 := f3 _ _ (gs ha) ha
          have aL : a ≠ L := fun e => gs ha (by simp [e])
          have lr := Paired.len pr3
          rw [List.length_append, List.length_map] at lr
          have lf := List.length_filter_le (fun v => decide (v ∉ o)) (List.range j)
          rw [List.length_range] at lf
          walk_at "rd"
          refine rv_ninT ha3 ?_
          walk_at "rd"
          · rename_i hv z1 hz1
            have hv : j ∉ o := hv
            refine rv_catA (hp_new hz1 ha3) upd_same (by rw [natsV_len]; exact sz4 (by simp; omega)) fun z H9 s9 e9 => ?_
            have s39 := (same_upd hz1 (o := .tup [V.int (j : Int)])).trans s9
            have eL9 := s39 _ _ eL3
            have zL : z ≠ L := fun e => by rw [e, eL9] at e9; cases e9
            walk_at "rd"
            refine ⟨rs ++ [z], _, rfl, (f3.same s39).set (by simp), by rw [upd_same, List.map_append]; rfl, ?_⟩
            have eq1 : ((ordsK n k).take i).flatMap (ext n) ++ ((List.range (j + 1)).filter fun v => decide (v ∉ o)).map (fun v => o ++ [v]) = (((ordsK n k).take i).flatMap (ext n) ++ ((List.range j).filter fun v => decide (v ∉ o)).map fun v => o ++ [v]) ++ [o ++ [j]] := by
              rw [List.range_succ, List.filter_append, List.filter_cons, if_pos (decide_eq_true hv), List.map_append, List.append_assoc]; rfl
            rw [eq1]
            refine Paired.app (Paired.mapP pr3 fun x _ h => ?_) (.cons ?_ .nil)
            · have h9 := s39 _ _ h
              rw [upd_ne (fun e => by rw [e, eL9] at h9; cases h9)]; exact h9
            · rw [upd_ne zL, e9]
              show some (HO.tup (natsV o ++ natsV [j])) = _
              unfold natsV
              rw [List.map_append]
          · rename_i hv
            have hv : ¬ j ∉ o := hv
            exact ⟨rs, _, rfl, f3, eL3, by rw [List.range_succ, List.filter_append, List.filter_cons, if_neg (by simpa using hv)]; simpa using pr3⟩
        · rintro σ H3 ⟨rs, x5, rfl, f3, eL3, pr3⟩
          refine ⟨rs, _, _, rfl, f3, eL3, ?_⟩
          rw [List.take_succ, eo, List.flatMap_append]
          simpa [ext] using pr3
      · rintro σ H2 ⟨rs, x4, x5, rfl, f2, eL, pr⟩
        rw [List.length_map, lq, List.take_length] at pr
        walk_at "rd"
        rename_i D2 hD2
        refine ⟨D2, rs, _, _, _, _, rfl, fun b o' e => hp_new hD2 (f2 _ _ (gs (s1 _ _ e)) (s1 _ _ e)), upd_same, ?_⟩
        rw [ords_succ]
        exact Paired.mapP pr fun _ _ h => hp_new hD2 h
    · rintro σ H1 ⟨D, qs, x2, x3, x4, x5, rfl, s1, eD, pq⟩
      walk_at "rd"
      exact q H1 D qs s1 eD pq
end
end K29
namespace K29
open PySem PySem.Spec PyProof.Rows L2 D0
local macro_rules | `(tactic| walk_at "neB") => `(tactic| with_reducible first | assumption | (apply Ne.symm; assumption) | (refine' BagAt.ne ?x ?h; (case h => assumption); (case x => assumption)))
local macro_rules | `(tactic| walk_at "hq") => `(tactic| with_reducible first | assumption | exact upd_same | ((first | (refine' hp_new ?nn ?hq; (case nn => assumption)) | (refine' Off.get ?f ?ne ?hq; (case f => assumption); (case ne => walk_at "neB"))); (case hq => walk_at "hq")))
local macro_rules | `(tactic| walk_at "neA") => `(tactic| with_reducible first | (refine' BagAt.ne ?x ?h; (case h => assumption); (case x => assumption)) | (refine' ne_of_none ?x ?h; (case h => assumption); (case x => walk_at "hq")))
local macro_rules | `(tactic| walk_at "ne") => `(tactic| with_reducible first | assumption | (apply Ne.symm; assumption) | walk_at "neA" | (apply Ne.symm; walk_at "neA"))
local macro_rules | `(tactic| walk_at "off") => `(tactic| with_reducible repeat' (first | assumption | exact Off.refl _ _ | apply Off.set | (refine' Off.new ?_ ?h; (case h => assumption)) | (refine' Off.trans ?_ ?f; (case f => assumption))))
local macro_rules | `(tactic| walk_at "hp") => `(tactic| with_reducible first | assumption | exact upd_same | ((first | (refine' hp_new ?nn ?hp; (case nn => assumption)) | (refine' hp_set ?ne ?hp; (case ne => walk_at "ne")) | (refine' Off.get ?f ?ne ?hp; (case f => assumption); (case ne => walk_at "ne"))); (case hp => walk_at "hp")))
local macro_rules | `(tactic| walk_at "sq") => `(tactic| with_reducible first | assumption | (refine' SqL.of ?hh; (case hh => walk_at "hp")) | ((first | (refine' sq_new ?nn ?sq; (case nn => assumption)) | (refine' sq_set ?ne ?sq; (case ne => walk_at "ne")) | (refine' Off.seq ?f ?ne ?sq; (case f => assumption); (case ne => walk_at "ne"))); (case sq => walk_at "sq")))
local macro_rules | `(tactic| walk_at "sqt") => `(tactic| with_reducible first | assumption | (refine' SqT.of ?hh; (case hh => walk_at "hp")) | ((first | (refine' sqt_new ?nn ?sq; (case nn => assumption)) | (refine' sqt_set ?ne ?sq; (case ne => walk_at "ne")) | (refine' Off.seqT ?f ?ne ?sq; (case f => assumption); (case ne => walk_at "ne"))); (case sq => walk_at "sqt")))
/- straight-line steps of a reading -/
local macro_rules | `(tactic| walk_at "at") => `(tactic| first | assumption | rfl | exact atI_nat (j := 0) rfl | exact atI_nat (j := 1) rfl | exact atI_nat (j := 2) rfl | exact at_ints (by omega) (by omega))
local macro_rules | `(tactic| walk_at "sz") => `(tactic| first | assumption | decide | exact sz4 (by omega) | exact sz4' (by omega) | (simp only [List.length_map, List.length_append, List.length_cons, List.length_nil, List.length_range, List.length_replicate]; first | exact sz4 (by omega) | exact sz4' (by omega) | omega))
local macro_rules | `(tactic| walk_at "mul") => `(tactic| first | exact .inr ⟨by decide, by decide⟩ | exact mul_fm (by decide) (by decide) | exact .inl ⟨by omega, by omega⟩ | exact .inr ⟨by omega, by omega⟩)
local macro_rules | `(tactic| walk_at "div") => `(tactic| with_reducible first | exact div97 | exact div3 | exact div2 | exact div_m (by assumption) (by assumption))
local macro_rules | `(tactic| walk_at "nz") => `(tactic| first | decide | omega)
local macro_rules | `(tactic| walk_at "rd") => `(tactic| repeat' walk_at "rd1")
local macro_rules | `(tactic| walk_at "rdA") => `(tactic| with_reducible first
  | refine rd_op ?_
  | refine rd_c ?_
  | refine rd_cb ?_
  | refine rd_cons ?_
  | refine rd_nil ?_
  | refine rd_bl ?_
  | refine rd_ii ?_
  | refine rd_M1 ?_
  | refine rd_M0 ?_
  | refine rd_isS ?_
  | refine rd_test ?_
  | refine rd_B ?_
  | refine rd_and ?_
  | refine rd_or ?_
  | refine rd_not ?_
  | refine rd_andV ?_
  | refine rd_orV ?_
  | refine rd_notV ?_
  | refine rd_ifE ?_
  | refine rd_chain ?_
  | refine rd_seq ?_
  | refine rd_if ?_
  | refine rd_asg ?_
  | refine rd_gname ?_
  | refine rd_gsub ?_
  | refine rd_drop ?_
  | refine rd_ret ?_
  | refine rd_retN ?_
  | refine rd_brk ?_
  | refine rd_cnt ?_
  | refine rd_next ?_
  | refine rd_tup ?_
  | refine rd_lst ?_
  | refine rd_BM ?_
  | refine rd_gcons ?_
  | refine rd_gnil ?_
  | refine rd_sl ?_
  | refine rd_nopart ?_
  | refine rd_part ?_
  | refine rd_un ?_
  | refine rd_call ?_
  | refine rd_callN ?_
  | refine rd_fld ?_
  | refine rd_sfld ?_
  | refine rd_meth ?_
  | refine rd_make ?_
  | refine rd_stat ?_
  | refine rv_stat ?_
  | refine rd_lenSet ?_
  | refine rd_dget ?_
  | refine rd_din ?_
  | refine rd_dnin ?_
  | refine rd_dput ?_
  | refine rd_dnewK ?_
  | refine rd_dnewT ?_
  | refine rd_listRg ?_
  | refine rd_rg1 ?_
  | refine rd_rg2 ?_
  | refine rv_i2 ?_
  | refine rd_yes ?_
  | refine rd_iList ?_
  | refine rd_iTup ?_
  | refine rd_augS ?_
  | refine rv_ipI ?_
  | refine rd_zipA ?_
  | refine rd_enumT ?_
  | refine rd_for ?_
  | refine rd_rng1 ?_
  | refine rd_revL ?_
  | refine rv_addI ?_
  | refine rv_sub ?_
  | refine rv_lt ?_
  | refine rv_le ?_
  | refine rv_gt ?_
  | refine rv_ge ?_
  | refine rv_eqI ?_
  | refine rv_neI ?_
  | refine rv_eqS ?_
  | refine rv_eqB ?_
  | refine rv_neS ?_
  | refine rv_neB ?_
  | refine rv_int ?_
  | refine rv_inS ?_
  | refine rv_isNn ?_
  | refine rv_isNr ?_
  | refine rv_isNi ?_
  | refine rv_isNb ?_
  | refine rv_isNs ?_
  | refine rv_notNn ?_
  | refine rv_notNr ?_
  | refine rv_notNi ?_
  | refine rv_ninS ?_
  | refine rv_abs ?_
  | refine rv_max2 ?_
  | refine rv_min2 ?_
  | refine rv_ord ?_
  | refine rv_neg ?_
  | refine iteT ?_
  | refine iteF ?_
  | refine iteD (fun h => ?_) (fun h => ?_)
  | refine iteND (fun h => ?_) (fun h => ?_))
local macro_rules | `(tactic| walk_at "rd1") => `(tactic| first
  | ((with_reducible refine' rd_andB ?h ?_); (case h => (intro Qe hq; walk_at "rd"; exact hq)))
  | ((with_reducible refine' rd_orB ?h ?_); (case h => (intro Qe hq; walk_at "rd"; exact hq)))
  | walk_at "rdA"
  | ((with_reducible refine' rd_var ?h ?_); (case h => rfl))
  | ((with_reducible refine' rd_wipe ?h ?_); (case h => rfl))
  | ((with_reducible refine' rd_aug ?h ?_); (case h => rfl))
  | ((with_reducible refine' rv_ixL ?h ?c ?_); (case h => walk_at "sq"); (case c => walk_at "at"))
  | ((with_reducible refine' rv_ixS ?h ?c ?_); (case h => walk_at "sz"); (case c => walk_at "at"))
  | ((with_reducible refine' rv_setL ?h ?c ?_); (case h => walk_at "hp"); (case c => rfl))
  | ((with_reducible refine' rv_mulI ?h ?_); (case h => walk_at "mul"))
  | ((with_reducible refine' rv_mod ?h ?_); (case h => walk_at "nz"))
  | ((with_reducible refine' rv_div ?h ?_); (case h => walk_at "div"))
  | ((with_reducible refine' rv_pow ?h ?_); (case h => exact ⟨by decide, by decide, by decide⟩))
  | ((with_reducible refine' rv_get ?h ?h0 ?c ?_); (case h => walk_at "sq"); (case h0 => omega); (case c => walk_at "at"))
  | ((with_reducible refine' rv_lenL ?h ?_); (case h => walk_at "sq"))
  | ((with_reducible refine' rv_lenS ?h ?_); (case h => walk_at "sz"))
  | ((with_reducible refine' rv_addS ?h ?_); (case h => walk_at "sz"))
  | ((with_reducible refine' rd_tyL ?h ?_); (case h => walk_at "sq"))
  | (with_reducible refine rd_tyS ?_)
  | ((with_reducible refine' rv_inL ?h ?hx ?hf ?_); (case h => walk_at "sq"); (case hx => rfl); (case hf => rfl))
  | ((with_reducible refine' rv_ninL ?h ?hx ?hf ?_); (case h => walk_at "sq"); (case hx => rfl); (case hf => rfl))
  | ((with_reducible refine' rv_all ?h ?_); (case h => walk_at "sq"))
  | ((with_reducible refine' rv_addL ?h1 ?h2 ?h3 (fun p hp => ?_)); (case h1 => walk_at "hp"); (case h2 => walk_at "hp"); (case h3 => walk_at "sz"))
  | (with_reducible refine iteB (fun h => ?_) (fun h => ?_))
  | (refine ⟨rfl, rfl, ?_⟩)
  | ((with_reducible refine' rv_up ?h ?_); (case h => omega))
  | ((with_reducible refine' rv_iL ?h ?_); (case h => walk_at "sq"))
  | ((with_reducible refine' rv_iT ?h ?_); (case h => walk_at "sqt"))
  | ((with_reducible refine' rv_listL ?h (fun p hp => ?_)); (case h => walk_at "sq"))
  | ((with_reducible refine' rv_listT ?h (fun p hp => ?_)); (case h => walk_at "sqt"))
  | ((with_reducible refine' rv_tupL ?h (fun p hp => ?_)); (case h => walk_at "sq"))
  | ((with_reducible refine' rv_tupT ?h ?_); (case h => walk_at "sqt"))
  | ((with_reducible refine' rv_ixT ?h ?c ?_); (case h => walk_at "sqt"); (case c => walk_at "at"))
  | ((with_reducible refine' rd_gtup ?h ?c ?_); (case h => walk_at "sqt"); (case c => rfl))
  | ((with_reducible refine' rv_lenT ?h ?_); (case h => walk_at "sqt"))
  | ((with_reducible refine' rv_isiB ?h ?_); (case h => with_reducible first | exact isi_bool_bool | exact isi_bool_int | exact isi_bool_str | exact isi_bool_list | exact isi_bool_tuple | exact isi_bool_dict))
  | ((with_reducible refine' rv_isiI ?h ?_); (case h => with_reducible first | exact isi_int_bool | exact isi_int_int | exact isi_int_str | exact isi_int_list | exact isi_int_tuple | exact isi_int_dict))
  | ((with_reducible refine' rv_isiS ?h ?_); (case h => with_reducible first | exact isi_str_bool | exact isi_str_int | exact isi_str_str | exact isi_str_list | exact isi_str_tuple | exact isi_str_dict))
  | ((with_reducible refine' rv_isiN ?h ?_); (case h => with_reducible first | exact isi_NoneType_bool | exact isi_NoneType_int | exact isi_NoneType_str | exact isi_NoneType_list | exact isi_NoneType_tuple | exact isi_NoneType_dict))
  | ((with_reducible refine' rv_isiL ?e ?h ?_); (case e => walk_at "hp"); (case h => with_reducible first | exact isi_list_bool | exact isi_list_int | exact isi_list_str | exact isi_list_list | exact isi_list_tuple | exact isi_list_dict))
  | ((with_reducible refine' rv_isiT ?e ?h ?_); (case e => walk_at "hp"); (case h => with_reducible first | exact isi_tuple_bool | exact isi_tuple_int | exact isi_tuple_str | exact isi_tuple_list | exact isi_tuple_tuple | exact isi_tuple_dict))
  | ((with_reducible refine' rv_revL ?h ?_); (case h => walk_at "sq"))
  | (with_reducible refine fun (p : Addr) (hp : _ = none) => ?_)
  | ((with_reducible refine' rv_slL ?h (fun p hp => ?_)); (case h => walk_at "sq"))
  | ((with_reducible refine' rv_slS ?h ?_); (case h => walk_at "sz"))
  | ((with_reducible refine' rv_ext ?h ?h2 ?c ?_); (case h => walk_at "hp"); (case h2 => walk_at "hp"); (case c => walk_at "sz"))
  | (refine ⟨(by simp only [List.length_cons, List.length_nil]; decide), fun p hp => ?_⟩)
  | ((with_reducible refine' rv_app ?h ?c ?_); (case h => walk_at "hp"); (case c => walk_at "sz"))
  )
local macro_rules | `(tactic| walk_at "bag") => `(tactic| first | assumption | (refine ⟨_, _, _, _, _, upd_same, (by assumption), ?hp, (by omega), (by omega)⟩; (case hp => walk_at "hp")) | exact ⟨_, _, _, _, _, (by assumption), (by assumption), (by assumption), (by assumption), (by assumption)⟩ | (refine BagAt.new ?_ (by assumption); walk_at "bag") | (refine BagAt.put ?_ (by assumption) (by assumption); walk_at "bag"))

def spDueO : Sp := fun vs H Q _ => ∃ (n : Nat) (l : Addr) (ls : List Addr) (tab : List (List Int)), vs = [.ref l] ∧ n ≤ 9 ∧ TabAt H l ls tab ∧ tab.length = n ∧ (∀ row ∈ tab, row.length = n) ∧ (∀ i, i < n → gT tab i i = 0) ∧ (∀ i j, 0 ≤ gT tab i j) ∧
  ∀ H' x y, Same H H' → H' x = some (.tup [.int (best (gT tab) n (List.range n)), .ref y]) → H' y = some (.tup (natsV (greedy (gT tab) n (List.range n)))) → Q (.ref x) H'
def spFirstL : Sp := fun vs H Q _ => ∃ (n : Nat) (l : Addr) (ls : List Addr) (tab : List (List Int)), vs = [.ref l] ∧ n ≤ 5 ∧ TabAt H l ls tab ∧ tab.length = n ∧ (∀ row ∈ tab, row.length = n) ∧ (∀ i, i < n → gT tab i i = 0) ∧ (∀ i j, 0 ≤ gT tab i j) ∧
  ∀ H' x y, Same H H' → H' x = some (.tup [.int (best (gT tab) n (List.range n)), .ref y]) → H' y = some (.tup (natsV (greedy (gT tab) n (List.range n)))) → Q (.ref x) H'
section
variable {P : Program} {w : World} {K : PySem.W.Frag} {mg : Str → Option Value} {base : Heap}
theorem ok_law_first_least (T : Txt K mg) : FnOk P w K mg base CX0 2 T.f_law_first_least T.fd_law_first_least ["rows"] spFirstL := by
  refine T.F_law_first_least.ok sc_law_first_least (fun vs H Q E h => ?_) (fun cdv A outer s H vs Q E hr h => ?_)
  · obtain ⟨n, l, ls, tab, rfl, _⟩ := h
    rfl
  · obtain ⟨n, l, ls, tab, rfl, hn, TA, lt, sq, dg, nn, q⟩ := h
    have el := TA.tb
    have ll := TA.len
    have lml : (ls.map V.ref).length = n := by rw [List.length_map]; omega
    refine ⟨_, (pss_cons (ps_set (i := 1) sc_law_first_least.nd rfl (by first | exact Or.inl rfl | exact Or.inr rfl) (pe_un un_neg pe_int))
   (pss_cons (ps_set (i := 2) sc_law_first_least.nd rfl (by first | exact Or.inl rfl | exact Or.inr rfl) (pe_tup pa_nil))
   (pss_cons (ps_for PassesOwn.never rfl (dpi_list K (pe_call (ok_law_all_orders T) (hr.mono (by omega)) (by rfl) T.g_law_all_orders T.F_law_all_orders.kp T.b_law_all_orders .nil pass0 (pa_cons (pe_callB (dLen K) (by rfl) T.n_len (by decide +kernel) (pa_cons (pv 0) pa_nil)) pa_nil))) (pg_name (i := 3) sc_law_first_least.nd rfl (by first | exact Or.inl rfl | exact Or.inr rfl))
    (pss_cons (ps_set (i := 4) sc_law_first_least.nd rfl (by first | exact Or.inl rfl | exact Or.inr rfl) (pe_call (ok_law_order_price T) (hr.mono (by omega)) (by rfl) T.g_law_order_price T.F_law_order_price.kp T.b_law_order_price .nil pass0 (pa_cons (pv 0) (pa_cons (pv 3) pa_nil))))
    (pss_one (ps_if (PW.pt (pw_or (pt_cmpR dLt (pv 1) pe_int (nomark _)) (pw_or1 (pt_cmpR dLt (pv 4) (pv 1) (nomark _)))))
     (pss_cons (ps_set (i := 1) sc_law_first_least.nd rfl (by first | exact Or.inl rfl | exact Or.inr rfl) (pv 4))
     (pss_one (ps_set (i := 2) sc_law_first_least.nd rfl (by first | exact Or.inl rfl | exact Or.inr rfl) (pv 3))))
     pss_nil))))
   (pss_one (ps_ret (pe_tup (pa_cons (pv 1) (pa_cons (pv 2) pa_nil)))))))), ?_⟩
    walk_at "rd"
    rename_i e he
    have se := same_upd he (o := .tup [])
    have ee := upd_same (H := H) (a := e) (o := .tup [])
    have ele := se _ _ el
    refine ⟨n, by rw [lml]; rfl, hn, fun H2 D qs s2 eD pq => ?_⟩
    have sA := se.trans s2
    have TA2 := TA.same sA
    have el2 := TA2.tb
    have ee2 := s2 _ _ ee
    have lq : qs.length = (ordsK n n).length := Paired.len pq
    walk_at "rd"
    refine for_list (K := K) (a := D) (xs := qs.map V.ref) (fun i σ H' => ∃ (b : Int) (c : Addr) (x3 x4 : Option V), σ = [some (.ref l), some (.int b), some (.ref c), x3, x4] ∧ Same H2 H' ∧ ((i = 0 ∧ b = -1) ∨ ∃ (j : Nat) (o : List Nat), j < i ∧ (ordsK n n)[j]? = some o ∧ H2 c = some (.tup (natsV o)) ∧ b = pr (gT tab) o ∧ (∀ j' y, j' < i → (ordsK n n)[j']? = some y → pr (gT tab) o ≤ pr (gT tab) y) ∧ ∀ j' y, j' < j → (ordsK n n)[j']? = some y → pr (gT tab) o < pr (gT tab) y)) ⟨-1, e, _, _, rfl, fun _ _ e => e, .inl ⟨rfl, rfl⟩⟩ (fun i σ H' _ h => by
      obtain ⟨_, _, _, _, _, s, _⟩ := h
      exact SqL.of (s _ _ eD)) ?_ ?_
    · rintro i x σ H3 hi ⟨b, c, x3, x4, rfl, s3, inv⟩
      rw [List.getElem?_map] at hi
      obtain ⟨a, ea, rfl⟩ := Option.map_eq_some_iff.mp hi
      obtain ⟨o, eo, ha⟩ := Paired.get1 pq ea
      obtain ⟨o1, o2, o3⟩ := (ords_mem n n o).mp (List.mem_of_getElem? eo)
      have pn := pr_nonneg nn o
      walk_at "rd"
      refine ⟨n, l, ls, tab, a, o, rfl, by omega, TA2.same s3, lt, sq, s3 _ _ ha, by omega, o3, fun H4 s4 => ?_⟩
      have s34 := s3.trans s4
      have bneg : b < 0 → i = 0 := fun hb => by
        rcases inv with ⟨z, _⟩ | ⟨j, o', _, _, _, e', _, _⟩
        · exact z
        · have := pr_nonneg nn o'; omega
      walk_at "rd"
      · rename_i h
        have := bneg h
        subst this
        exact ⟨_, a, _, _, rfl, s34, .inr ⟨0, o, by omega, eo, ha, rfl, fun j' y hj e => by
          have : j' = 0 := by omega
          subst this
          rw [eo] at e; cases e; exact Int.le_refl _, fun j' y hj _ => absurd hj (Nat.not_lt_zero _)⟩⟩
      · rename_i h1 h2
        rcases inv with ⟨_, e'⟩ | ⟨j, o', hj, ej, ec, eb, le, ltj⟩
        · omega
        · exact ⟨_, a, _, _, rfl, s34, .inr ⟨i, o, by omega, eo, ha, rfl, fun j' y hj' e => by
            by_cases z : j' = i
            · subst z; rw [eo] at e; cases e; exact Int.le_refl _
            · have := le j' y (by omega) e; omega, fun j' y hj' e => by have := le j' y hj' e; omega⟩⟩
      · rename_i h1 h2
        rcases inv with ⟨_, e'⟩ | ⟨j, o', hj, ej, ec, eb, le, ltj⟩
        · omega
        · exact ⟨_, c, _, _, rfl, s34, .inr ⟨j, o', by omega, ej, ec, eb, fun j' y hj' e => by
            by_cases z : j' = i
            · subst z; rw [eo] at e; cases e; omega
            · exact le j' y (by omega) e, ltj⟩⟩
    · rintro σ H3 ⟨b, c, x3, x4, rfl, s3, inv⟩
      rw [List.length_map, lq] at inv
      have ne : 0 < (ordsK n n).length := List.length_pos_of_mem ((ords_mem n n (List.range n)).mpr ⟨List.length_range, List.nodup_range, fun x hx => List.mem_range.mp hx⟩)
      rcases inv with ⟨z, _⟩ | ⟨j, o, hj, ej, ec, eb, le, ltj⟩
      · omega
      · obtain ⟨e1, e2⟩ := first_greedy (gT tab) dg ej (fun y hy => by
          obtain ⟨j', hj', e⟩ := List.mem_iff_getElem.mp hy
          exact le j' y hj' (by rw [List.getElem?_eq_getElem hj', e])) ltj
        rw [e2] at eb
        rw [e1] at ec
        subst eb
        walk_at "rd"
        rename_i x hx
        exact q _ x c ((sA.trans s3).trans (same_upd hx)) upd_same (hp_new hx (s3 _ _ ec))
theorem ok_law_due_order (T : Txt K mg) : FnOk P w K mg base CX0 4 T.f_law_due_order T.fd_law_due_order ["rows"] spDueO := by
  refine T.F_law_due_order.ok sc_law_due_order (fun vs H Q E h => ?_) (fun cdv A outer s H vs Q E hr h => ?_)
  · obtain ⟨n, l, ls, tab, rfl, _⟩ := h
    rfl
  · obtain ⟨n, l, ls, tab, rfl, hn, TA, lt, sq, dg, nn, q⟩ := h
    have el := TA.tb
    have ll := TA.len
    have lml : (ls.map V.ref).length = n := by rw [List.length_map]; omega
    have zr : ∀ v ∈ List.range n, gT tab v v = 0 := fun v hv => dg v (List.mem_range.mp hv)
    obtain ⟨gp, ge⟩ := greedy_perm (gT tab) n (List.range n) List.nodup_range List.length_range zr
    refine ⟨_, (pss_cons (ps_if (pt_cmpR dLe (pe_callB (dLen K) (by rfl) T.n_len (by decide +kernel) (pa_cons (pv 0) pa_nil)) pe_int (nomark _))
    (pss_one (ps_ret (pe_call (ok_law_first_least T) (hr.mono (by omega)) (by rfl) T.g_law_first_least T.F_law_first_least.kp T.b_law_first_least .nil pass0 (pa_cons (pv 0) pa_nil))))
    pss_nil)
   (pss_cons (ps_set (i := 1) sc_law_due_order.nd rfl (by first | exact Or.inl rfl | exact Or.inr rfl) (pe_call (ok_law_least_order T) (hr.mono (by omega)) (by rfl) T.g_law_least_order T.F_law_least_order.kp T.b_law_least_order .nil pass0 (pa_cons (pv 0) pa_nil)))
   (pss_one (ps_ret (pe_tup (pa_cons (pe_call (ok_law_order_price T) (hr.mono (by omega)) (by rfl) T.g_law_order_price T.F_law_order_price.kp T.b_law_order_price .nil pass0 (pa_cons (pv 0) (pa_cons (pv 1) pa_nil))) (pa_cons (pv 1) pa_nil))))))), ?_⟩
    walk_at "rd"
    · rename_i h
      exact ⟨n, l, ls, tab, rfl, by omega, TA, lt, sq, dg, nn, q⟩
    · refine ⟨n, l, ls, tab, rfl, hn, TA, lt, sq, dg, nn, fun H2 y s2 ey => ?_⟩
      walk_at "rd"
      refine ⟨n, l, ls, tab, y, _, rfl, by omega, TA.same s2, lt, sq, ey, by rw [gp.length_eq, List.length_range]; omega, fun v hv => List.mem_range.mp (gp.subset hv), fun H3 s3 => ?_⟩
      rw [ge]
      walk_at "rd"
      rename_i x hx
      exact q _ x y ((s2.trans s3).trans (same_upd hx)) upd_same (hp_new hx (s3 _ _ ey))
end
end K29
namespace K29
open PySem PySem.Spec PyProof.Rows L2 D0
local macro_rules | `(tactic| walk_at "neB") => `(tactic| with_reducible first | assumption | (apply Ne.symm; assumption) | (refine' BagAt.ne ?x ?h; (case h => assumption); (case x => assumption)))
local macro_rules | `(tactic| walk_at "hq") => `(tactic| with_reducible first | assumption | exact upd_same | ((first | (refine' hp_new ?nn ?hq; (case nn => assumption)) | (refine' Off.get ?f ?ne ?hq; (case f => assumption); (case ne => walk_at "neB"))); (case hq => walk_at "hq")))
local macro_rules | `(tactic| walk_at "neA") => `(tactic| with_reducible first | (refine' BagAt.ne ?x ?h; (case h => assumption); (case x => assumption)) | (refine' ne_of_none ?x ?h; (case h => assumption); (case x => walk_at "hq")))
local macro_rules | `(tactic| walk_at "ne") => `(tactic| with_reducible first | assumption | (apply Ne.symm; assumption) | walk_at "neA" | (apply Ne.symm; walk_at "neA"))
local macro_rules | `(tactic| walk_at "off") => `(tactic| with_reducible repeat' (first | assumption | exact Off.refl _ _ | apply Off.set | (refine' Off.new ?_ ?h; (case h => assumption)) | (refine' Off.trans ?_ ?f; (case f => assumption))))
local macro_rules | `(tactic| walk_at "hp") => `(tactic| with_reducible first | assumption | exact upd_same | ((first | (refine' hp_new ?nn ?hp; (case nn => assumption)) | (refine' hp_set ?ne ?hp; (case ne => walk_at "ne")) | (refine' Off.get ?f ?ne ?hp; (case f => assumption); (case ne => walk_at "ne"))); (case hp => walk_at "hp")))
local macro_rules | `(tactic| walk_at "sq") => `(tactic| with_reducible first | assumption | (refine' SqL.of ?hh; (case hh => walk_at "hp")) | ((first | (refine' sq_new ?nn ?sq; (case nn => assumption)) | (refine' sq_set ?ne ?sq; (case ne => walk_at "ne")) | (refine' Off.seq ?f ?ne ?sq; (case f => assumption); (case ne => walk_at "ne"))); (case sq => walk_at "sq")))
local macro_rules | `(tactic| walk_at "sqt") => `(tactic| with_reducible first | assumption | (refine' SqT.of ?hh; (case hh => walk_at "hp")) | ((first | (refine' sqt_new ?nn ?sq; (case nn => assumption)) | (refine' sqt_set ?ne ?sq; (case ne => walk_at "ne")) | (refine' Off.seqT ?f ?ne ?sq; (case f => assumption); (case ne => walk_at "ne"))); (case sq => walk_at "sqt")))
/- straight-line steps of a reading -/
local macro_rules | `(tactic| walk_at "at") => `(tactic| first | assumption | rfl | exact atI_nat (j := 0) rfl | exact atI_nat (j := 1) rfl | exact atI_nat (j := 2) rfl | exact at_ints (by omega) (by omega))
local macro_rules | `(tactic| walk_at "sz") => `(tactic| first | assumption | decide | exact sz4 (by omega) | exact sz4' (by omega) | (simp only [List.length_map, List.length_append, List.length_cons, List.length_nil, List.length_range, List.length_replicate]; first | exact sz4 (by omega) | exact sz4' (by omega) | omega))
local macro_rules | `(tactic| walk_at "mul") => `(tactic| first | exact .inr ⟨by decide, by decide⟩ | exact mul_fm (by decide) (by decide) | exact .inl ⟨by omega, by omega⟩ | exact .inr ⟨by omega, by omega⟩)
local macro_rules | `(tactic| walk_at "div") => `(tactic| with_reducible first | exact div97 | exact div3 | exact div2 | exact div_m (by assumption) (by assumption))
local macro_rules | `(tactic| walk_at "nz") => `(tactic| first | decide | omega)
local macro_rules | `(tactic| walk_at "rd") => `(tactic| repeat' walk_at "rd1")
local macro_rules | `(tactic| walk_at "rdA") => `(tactic| with_reducible first
  | refine rd_op ?_
  | refine rd_c ?_
  | refine rd_cb ?_
  | refine rd_cons ?_
  | refine rd_nil ?_
  | refine rd_bl ?_
  | refine rd_ii ?_
  | refine rd_M1 ?_
  | refine rd_M0 ?_
  | refine rd_isS ?_
  | refine rd_test ?_
  | refine rd_B ?_
  | refine rd_and ?_
  | refine rd_or ?_
  | refine rd_not ?_
  | refine rd_andV ?_
  | refine rd_orV ?_
  | refine rd_notV ?_
  | refine rd_ifE ?_
  | refine rd_chain ?_
  | refine rd_seq ?_
  | refine rd_if ?_
  | refine rd_asg ?_
  | refine rd_gname ?_
  | refine rd_gsub ?_
  | refine rd_drop ?_
  | refine rd_ret ?_
  | refine rd_retN ?_
  | refine rd_brk ?_
  | refine rd_cnt ?_
  | refine rd_next ?_
  | refine rd_tup ?_
  | refine rd_lst ?_
  | refine rd_BM ?_
  | refine rd_gcons ?_
  | refine rd_gnil ?_
  | refine rd_sl ?_
  | refine rd_nopart ?_
  | refine rd_part ?_
  | refine rd_un ?_
  | refine rd_call ?_
  | refine rd_callN ?_
  | refine rd_fld ?_
  | refine rd_sfld ?_
  | refine rd_meth ?_
  | refine rd_make ?_
  | refine rd_stat ?_
  | refine rv_stat ?_
  | refine rd_lenSet ?_
  | refine rd_dget ?_
  | refine rd_din ?_
  | refine rd_dnin ?_
  | refine rd_dput ?_
  | refine rd_dnewK ?_
  | refine rd_dnewT ?_
  | refine rd_listRg ?_
  | refine rd_rg1 ?_
  | refine rd_rg2 ?_
  | refine rv_i2 ?_
  | refine rd_yes ?_
  | refine rd_iList ?_
  | refine rd_iTup ?_
  | refine rd_augS ?_
  | refine rv_ipI ?_
  | refine rd_zipA ?_
  | refine rd_enumT ?_
  | refine rd_for ?_
  | refine rd_rng1 ?_
  | refine rd_revL ?_
  | refine rv_addI ?_
  | refine rv_sub ?_
  | refine rv_lt ?_
  | refine rv_le ?_
  | refine rv_gt ?_
  | refine rv_ge ?_
  | refine rv_eqI ?_
  | refine rv_neI ?_
  | refine rv_eqS ?_
  | refine rv_eqB ?_
  | refine rv_neS ?_
  | refine rv_neB ?_
  | refine rv_int ?_
  | refine rv_inS ?_
  | refine rv_isNn ?_
  | refine rv_isNr ?_
  | refine rv_isNi ?_
  | refine rv_isNb ?_
  | refine rv_isNs ?_
  | refine rv_notNn ?_
  | refine rv_notNr ?_
  | refine rv_notNi ?_
  | refine rv_ninS ?_
  | refine rv_abs ?_
  | refine rv_max2 ?_
  | refine rv_min2 ?_
  | refine rv_ord ?_
  | refine rv_neg ?_
  | refine iteT ?_
  | refine iteF ?_
  | refine iteD (fun h => ?_) (fun h => ?_)
  | refine iteND (fun h => ?_) (fun h => ?_))
local macro_rules | `(tactic| walk_at "rd1") => `(tactic| first
  | ((with_reducible refine' rd_andB ?h ?_); (case h => (intro Qe hq; walk_at "rd"; exact hq)))
  | ((with_reducible refine' rd_orB ?h ?_); (case h => (intro Qe hq; walk_at "rd"; exact hq)))
  | walk_at "rdA"
  | ((with_reducible refine' rd_var ?h ?_); (case h => rfl))
  | ((with_reducible refine' rd_wipe ?h ?_); (case h => rfl))
  | ((with_reducible refine' rd_aug ?h ?_); (case h => rfl))
  | ((with_reducible refine' rv_ixL ?h ?c ?_); (case h => walk_at "sq"); (case c => walk_at "at"))
  | ((with_reducible refine' rv_ixS ?h ?c ?_); (case h => walk_at "sz"); (case c => walk_at "at"))
  | ((with_reducible refine' rv_setL ?h ?c ?_); (case h => walk_at "hp"); (case c => rfl))
  | ((with_reducible refine' rv_mulI ?h ?_); (case h => walk_at "mul"))
  | ((with_reducible refine' rv_mod ?h ?_); (case h => walk_at "nz"))
  | ((with_reducible refine' rv_div ?h ?_); (case h => walk_at "div"))
  | ((with_reducible refine' rv_pow ?h ?_); (case h => exact ⟨by decide, by decide, by decide⟩))
  | ((with_reducible refine' rv_get ?h ?h0 ?c ?_); (case h => walk_at "sq"); (case h0 => omega); (case c => walk_at "at"))
  | ((with_reducible refine' rv_lenL ?h ?_); (case h => walk_at "sq"))
  | ((with_reducible refine' rv_lenS ?h ?_); (case h => walk_at "sz"))
  | ((with_reducible refine' rv_addS ?h ?_); (case h => walk_at "sz"))
  | ((with_reducible refine' rd_tyL ?h ?_); (case h => walk_at "sq"))
  | (with_reducible refine rd_tyS ?_)
  | ((with_reducible refine' rv_inL ?h ?hx ?hf ?_); (case h => walk_at "sq"); (case hx => rfl); (case hf => rfl))
  | ((with_reducible refine' rv_ninL ?h ?hx ?hf ?_); (case h => walk_at "sq"); (case hx => rfl); (case hf => rfl))
  | ((with_reducible refine' rv_all ?h ?_); (case h => walk_at "sq"))
  | ((with_reducible refine' rv_addL ?h1 ?h2 ?h3 (fun p hp => ?_)); (case h1 => walk_at "hp"); (case h2 => walk_at "hp"); (case h3 => walk_at "sz"))
  | (with_reducible refine iteB (fun h => ?_) (fun h => ?_))
  | (refine ⟨rfl, rfl, ?_⟩)
  | ((with_reducible refine' rv_up ?h ?_); (case h => omega))
  | ((with_reducible refine' rv_iL ?h ?_); (case h => walk_at "sq"))
  | ((with_reducible refine' rv_iT ?h ?_); (case h => walk_at "sqt"))
  | ((with_reducible refine' rv_listL ?h (fun p hp => ?_)); (case h => walk_at "sq"))
  | ((with_reducible refine' rv_listT ?h (fun p hp => ?_)); (case h => walk_at "sqt"))
  | ((with_reducible refine' rv_tupL ?h (fun p hp => ?_)); (case h => walk_at "sq"))
  | ((with_reducible refine' rv_tupT ?h ?_); (case h => walk_at "sqt"))
  | ((with_reducible refine' rv_ixT ?h ?c ?_); (case h => walk_at "sqt"); (case c => walk_at "at"))
  | ((with_reducible refine' rd_gtup ?h ?c ?_); (case h => walk_at "sqt"); (case c => rfl))
  | ((with_reducible refine' rv_lenT ?h ?_); (case h => walk_at "sqt"))
  | ((with_reducible refine' rv_isiB ?h ?_); (case h => with_reducible first | exact isi_bool_bool | exact isi_bool_int | exact isi_bool_str | exact isi_bool_list | exact isi_bool_tuple | exact isi_bool_dict))
  | ((with_reducible refine' rv_isiI ?h ?_); (case h => with_reducible first | exact isi_int_bool | exact isi_int_int | exact isi_int_str | exact isi_int_list | exact isi_int_tuple | exact isi_int_dict))
  | ((with_reducible refine' rv_isiS ?h ?_); (case h => with_reducible first | exact isi_str_bool | exact isi_str_int | exact isi_str_str | exact isi_str_list | exact isi_str_tuple | exact isi_str_dict))
  | ((with_reducible refine' rv_isiN ?h ?_); (case h => with_reducible first | exact isi_NoneType_bool | exact isi_NoneType_int | exact isi_NoneType_str | exact isi_NoneType_list | exact isi_NoneType_tuple | exact isi_NoneType_dict))
  | ((with_reducible refine' rv_isiL ?e ?h ?_); (case e => walk_at "hp"); (case h => with_reducible first | exact isi_list_bool | exact isi_list_int | exact isi_list_str | exact isi_list_list | exact isi_list_tuple | exact isi_list_dict))
  | ((with_reducible refine' rv_isiT ?e ?h ?_); (case e => walk_at "hp"); (case h => with_reducible first | exact isi_tuple_bool | exact isi_tuple_int | exact isi_tuple_str | exact isi_tuple_list | exact isi_tuple_tuple | exact isi_tuple_dict))
  | ((with_reducible refine' rv_revL ?h ?_); (case h => walk_at "sq"))
  | (with_reducible refine fun (p : Addr) (hp : _ = none) => ?_)
  | ((with_reducible refine' rv_slL ?h (fun p hp => ?_)); (case h => walk_at "sq"))
  | ((with_reducible refine' rv_slS ?h ?_); (case h => walk_at "sz"))
  | ((with_reducible refine' rv_ext ?h ?h2 ?c ?_); (case h => walk_at "hp"); (case h2 => walk_at "hp"); (case c => walk_at "sz"))
  | (refine ⟨(by simp only [List.length_cons, List.length_nil]; decide), fun p hp => ?_⟩)
  | ((with_reducible refine' rv_app ?h ?c ?_); (case h => walk_at "hp"); (case c => walk_at "sz"))
  )
local macro_rules | `(tactic| walk_at "bag") => `(tactic| first | assumption | (refine ⟨_, _, _, _, _, upd_same, (by assumption), ?hp, (by omega), (by omega)⟩; (case hp => walk_at "hp")) | exact ⟨_, _, _, _, _, (by assumption), (by assumption), (by assumption), (by assumption), (by assumption)⟩ | (refine BagAt.new ?_ (by assumption); walk_at "bag") | (refine BagAt.put ?_ (by assumption) (by assumption); walk_at "bag"))

section
variable {P : Program} {w : World} {K : PySem.W.Frag} {mg : Str → Option Value} {base : Heap}
theorem ok_same_n (T : Txt K mg) : ∀ n : Nat, FnOk P w K mg base CX0 (n + 2) T.f_law_same T.fd_law_same ["got", "due"] (spSame n) := fun n => by
  induction n with
  | zero =>
    refine T.F_law_same.ok sc_law_same (fun vs H Q E h => ?_) (fun cdv A outer s H vs Q E hr h => ?_)
    · obtain ⟨x, y, rfl, _⟩ := h
      rfl
    · obtain ⟨x, y, rfl, ⟨rfl, hx⟩, q⟩ := h
      have ih : FnOk P w K mg base CX0 0 T.f_law_same T.fd_law_same ["got", "due"] (fun _ _ _ _ => False) := ⟨fun _ _ _ _ h => h.elim, fun _ _ _ _ _ _ _ _ _ _ _ _ _ h => h.elim⟩
      refine ⟨_, (pss_cons (ps_if (pt_cmpR dIsN (pv 1) pe_non (nomark _))
    (pss_one (ps_ret (pe_cmpR dIsN (pv 0) pe_non (nomark _))))
    pss_nil)
   (pss_cons (ps_if (pt_val (pe_callB (dIsi K) (by rfl) T.n_isinstance (by decide +kernel) (pa_cons (pv 1) (pa_cons (pe_bltn (v := .ty "bool") (u := .type "bool") (by rfl) T.n_bool (by decide +kernel) rfl) pa_nil))))
    (pss_one (ps_ret (pe_and (pe_callB (dIsi K) (by rfl) T.n_isinstance (by decide +kernel) (pa_cons (pv 0) (pa_cons (pe_bltn (v := .ty "bool") (u := .type "bool") (by rfl) T.n_bool (by decide +kernel) rfl) pa_nil))) (pe_one (pe_cmpR dEq (pv 0) (pv 1) (nomark _))))))
    pss_nil)
   (pss_cons (ps_if (pt_val (pe_callB (dIsi K) (by rfl) T.n_isinstance (by decide +kernel) (pa_cons (pv 1) (pa_cons (pe_bltn (v := .ty "int") (u := .type "int") (by rfl) T.n_int (by decide +kernel) rfl) pa_nil))))
    (pss_one (ps_ret (pe_and (pe_call (ok_law_whole T) (hr.mono (by omega)) (by rfl) T.g_law_whole T.F_law_whole.kp T.b_law_whole .nil pass0 (pa_cons (pv 0) pa_nil)) (pe_one (pe_cmpR dEq (pv 0) (pv 1) (nomark _))))))
    pss_nil)
   (pss_cons (ps_if (pt_val (pe_callB (dIsi K) (by rfl) T.n_isinstance (by decide +kernel) (pa_cons (pv 1) (pa_cons (pe_bltn (v := .ty "str") (u := .type "str") (by rfl) T.n_str (by decide +kernel) rfl) pa_nil))))
    (pss_one (ps_ret (pe_and (pe_callB (dIsi K) (by rfl) T.n_isinstance (by decide +kernel) (pa_cons (pv 0) (pa_cons (pe_bltn (v := .ty "str") (u := .type "str") (by rfl) T.n_str (by decide +kernel) rfl) pa_nil))) (pe_one (pe_cmpR dEq (pv 0) (pv 1) (nomark _))))))
    pss_nil)
   (pss_cons (ps_if (PW.pt (pw_or (pt_val (pe_callB (dIsi K) (by rfl) T.n_isinstance (by decide +kernel) (pa_cons (pv 1) (pa_cons (pe_bltn (v := .ty "tuple") (u := .type "tuple") (by rfl) T.n_tuple (by decide +kernel) rfl) pa_nil)))) (pw_or1 (pt_val (pe_callB (dIsi K) (by rfl) T.n_isinstance (by decide +kernel) (pa_cons (pv 1) (pa_cons (pe_bltn (v := .ty "list") (u := .type "list") (by rfl) T.n_list (by decide +kernel) rfl) pa_nil)))))))
    (pss_cons (ps_if (PW.pt (pw_and (pt_val (pe_callB (dIsi K) (by rfl) T.n_isinstance (by decide +kernel) (pa_cons (pv 1) (pa_cons (pe_bltn (v := .ty "tuple") (u := .type "tuple") (by rfl) T.n_tuple (by decide +kernel) rfl) pa_nil)))) (pw_and1 (pt_not (pt_val (pe_callB (dIsi K) (by rfl) T.n_isinstance (by decide +kernel) (pa_cons (pv 0) (pa_cons (pe_bltn (v := .ty "tuple") (u := .type "tuple") (by rfl) T.n_tuple (by decide +kernel) rfl) pa_nil))))))))
     (pss_one (ps_ret pe_bl))
     pss_nil)
    (pss_cons (ps_if (PW.pt (pw_and (pt_val (pe_callB (dIsi K) (by rfl) T.n_isinstance (by decide +kernel) (pa_cons (pv 1) (pa_cons (pe_bltn (v := .ty "list") (u := .type "list") (by rfl) T.n_list (by decide +kernel) rfl) pa_nil)))) (pw_and1 (pt_not (pt_val (pe_callB (dIsi K) (by rfl) T.n_isinstance (by decide +kernel) (pa_cons (pv 0) (pa_cons (pe_bltn (v := .ty "list") (u := .type "list") (by rfl) T.n_list (by decide +kernel) rfl) pa_nil))))))))
     (pss_one (ps_ret pe_bl))
     pss_nil)
    (pss_cons (ps_if (pt_cmpR dNe (pe_callB (dLen K) (by rfl) T.n_len (by decide +kernel) (pa_cons (pv 0) pa_nil)) (pe_callB (dLen K) (by rfl) T.n_len (by decide +kernel) (pa_cons (pv 1) pa_nil)) (nomark _))
     (pss_one (ps_ret pe_bl))
     pss_nil)
    (pss_cons (ps_for PassesOwn.never rfl (pi_range1 rfl T.n_range (pa_cons (pe_callB (dLen K) (by rfl) T.n_len (by decide +kernel) (pa_cons (pv 1) pa_nil)) pa_nil)) (pg_name (i := 2) sc_law_same.nd rfl (by first | exact Or.inl rfl | exact Or.inr rfl))
     (pss_one (ps_if (pt_not (pt_val (pe_call ih (hr.mono (by omega)) (by rfl) T.g_law_same T.F_law_same.kp T.b_law_same .nil pass0 (pa_cons (pe_ix (dIx K) (pv 0) (pv 2) (fun _ _ => rfl)) (pa_cons (pe_ix (dIx K) (pv 1) (pv 2) (fun _ _ => rfl)) pa_nil)))))
      (pss_one (ps_ret pe_bl))
      pss_nil)))
    (pss_one (ps_ret pe_bl))))))
    pss_nil)
   (pss_cons (ps_if (pt_val (pe_callB (dIsi K) (by rfl) T.n_isinstance (by decide +kernel) (pa_cons (pv 1) (pa_cons (pe_bltn (v := .ty "dict") (u := .type "dict") (by rfl) T.n_dict (by decide +kernel) rfl) pa_nil)))) pss_never pss_nil)
   (pss_one (ps_ret pe_bl)))))))), ?_⟩
      have q0 := q H (fun _ _ e => e)
      cases x with
      | non => walk_at "rd"; exact q0
      | bl b => walk_at "rd"; simpa using q0
      | int i =>
        walk_at "rd"
        refine ⟨i, rfl, ?_⟩
        walk_at "rd"
        simpa using q0
      | str z => walk_at "rd"; simpa using q0
      | byt _ => cases hx
      | flt _ => cases hx
      | ref _ => cases hx
      | ty _ => cases hx
  | succ n ih =>
    refine T.F_law_same.ok sc_law_same (fun vs H Q E h => ?_) (fun cdv A outer s H vs Q E hr h => ?_)
    · obtain ⟨x, y, rfl, _⟩ := h
      rfl
    · obtain ⟨x, y, rfl, hx, q⟩ := h
      refine ⟨_, (pss_cons (ps_if (pt_cmpR dIsN (pv 1) pe_non (nomark _))
    (pss_one (ps_ret (pe_cmpR dIsN (pv 0) pe_non (nomark _))))
    pss_nil)
   (pss_cons (ps_if (pt_val (pe_callB (dIsi K) (by rfl) T.n_isinstance (by decide +kernel) (pa_cons (pv 1) (pa_cons (pe_bltn (v := .ty "bool") (u := .type "bool") (by rfl) T.n_bool (by decide +kernel) rfl) pa_nil))))
    (pss_one (ps_ret (pe_and (pe_callB (dIsi K) (by rfl) T.n_isinstance (by decide +kernel) (pa_cons (pv 0) (pa_cons (pe_bltn (v := .ty "bool") (u := .type "bool") (by rfl) T.n_bool (by decide +kernel) rfl) pa_nil))) (pe_one (pe_cmpR dEq (pv 0) (pv 1) (nomark _))))))
    pss_nil)
   (pss_cons (ps_if (pt_val (pe_callB (dIsi K) (by rfl) T.n_isinstance (by decide +kernel) (pa_cons (pv 1) (pa_cons (pe_bltn (v := .ty "int") (u := .type "int") (by rfl) T.n_int (by decide +kernel) rfl) pa_nil))))
    (pss_one (ps_ret (pe_and (pe_call (ok_law_whole T) (hr.mono (by omega)) (by rfl) T.g_law_whole T.F_law_whole.kp T.b_law_whole .nil pass0 (pa_cons (pv 0) pa_nil)) (pe_one (pe_cmpR dEq (pv 0) (pv 1) (nomark _))))))
    pss_nil)
   (pss_cons (ps_if (pt_val (pe_callB (dIsi K) (by rfl) T.n_isinstance (by decide +kernel) (pa_cons (pv 1) (pa_cons (pe_bltn (v := .ty "str") (u := .type "str") (by rfl) T.n_str (by decide +kernel) rfl) pa_nil))))
    (pss_one (ps_ret (pe_and (pe_callB (dIsi K) (by rfl) T.n_isinstance (by decide +kernel) (pa_cons (pv 0) (pa_cons (pe_bltn (v := .ty "str") (u := .type "str") (by rfl) T.n_str (by decide +kernel) rfl) pa_nil))) (pe_one (pe_cmpR dEq (pv 0) (pv 1) (nomark _))))))
    pss_nil)
   (pss_cons (ps_if (PW.pt (pw_or (pt_val (pe_callB (dIsi K) (by rfl) T.n_isinstance (by decide +kernel) (pa_cons (pv 1) (pa_cons (pe_bltn (v := .ty "tuple") (u := .type "tuple") (by rfl) T.n_tuple (by decide +kernel) rfl) pa_nil)))) (pw_or1 (pt_val (pe_callB (dIsi K) (by rfl) T.n_isinstance (by decide +kernel) (pa_cons (pv 1) (pa_cons (pe_bltn (v := .ty "list") (u := .type "list") (by rfl) T.n_list (by decide +kernel) rfl) pa_nil)))))))
    (pss_cons (ps_if (PW.pt (pw_and (pt_val (pe_callB (dIsi K) (by rfl) T.n_isinstance (by decide +kernel) (pa_cons (pv 1) (pa_cons (pe_bltn (v := .ty "tuple") (u := .type "tuple") (by rfl) T.n_tuple (by decide +kernel) rfl) pa_nil)))) (pw_and1 (pt_not (pt_val (pe_callB (dIsi K) (by rfl) T.n_isinstance (by decide +kernel) (pa_cons (pv 0) (pa_cons (pe_bltn (v := .ty "tuple") (u := .type "tuple") (by rfl) T.n_tuple (by decide +kernel) rfl) pa_nil))))))))
     (pss_one (ps_ret pe_bl))
     pss_nil)
    (pss_cons (ps_if (PW.pt (pw_and (pt_val (pe_callB (dIsi K) (by rfl) T.n_isinstance (by decide +kernel) (pa_cons (pv 1) (pa_cons (pe_bltn (v := .ty "list") (u := .type "list") (by rfl) T.n_list (by decide +kernel) rfl) pa_nil)))) (pw_and1 (pt_not (pt_val (pe_callB (dIsi K) (by rfl) T.n_isinstance (by decide +kernel) (pa_cons (pv 0) (pa_cons (pe_bltn (v := .ty "list") (u := .type "list") (by rfl) T.n_list (by decide +kernel) rfl) pa_nil))))))))
     (pss_one (ps_ret pe_bl))
     pss_nil)
    (pss_cons (ps_if (pt_cmpR dNe (pe_callB (dLen K) (by rfl) T.n_len (by decide +kernel) (pa_cons (pv 0) pa_nil)) (pe_callB (dLen K) (by rfl) T.n_len (by decide +kernel) (pa_cons (pv 1) pa_nil)) (nomark _))
     (pss_one (ps_ret pe_bl))
     pss_nil)
    (pss_cons (ps_for PassesOwn.never rfl (pi_range1 rfl T.n_range (pa_cons (pe_callB (dLen K) (by rfl) T.n_len (by decide +kernel) (pa_cons (pv 1) pa_nil)) pa_nil)) (pg_name (i := 2) sc_law_same.nd rfl (by first | exact Or.inl rfl | exact Or.inr rfl))
     (pss_one (ps_if (pt_not (pt_val (pe_call ih (hr.mono (by omega)) (by rfl) T.g_law_same T.F_law_same.kp T.b_law_same .nil pass0 (pa_cons (pe_ix (dIx K) (pv 0) (pv 2) (fun _ _ => rfl)) (pa_cons (pe_ix (dIx K) (pv 1) (pv 2) (fun _ _ => rfl)) pa_nil)))))
      (pss_one (ps_ret pe_bl))
      pss_nil)))
    (pss_one (ps_ret pe_bl))))))
    pss_nil)
   (pss_cons (ps_if (pt_val (pe_callB (dIsi K) (by rfl) T.n_isinstance (by decide +kernel) (pa_cons (pv 1) (pa_cons (pe_bltn (v := .ty "dict") (u := .type "dict") (by rfl) T.n_dict (by decide +kernel) rfl) pa_nil)))) pss_never pss_nil)
   (pss_one (ps_ret pe_bl)))))))), ?_⟩
      rcases hx with ⟨rfl, hx⟩ | ⟨a, b, xs, ys, rfl, rfl, l, hab, p⟩
      · have q0 := q H (fun _ _ e => e)
        cases x with
        | non => walk_at "rd"; exact q0
        | bl b => walk_at "rd"; simpa using q0
        | int i =>
          walk_at "rd"
          refine ⟨i, rfl, ?_⟩
          walk_at "rd"
          simpa using q0
        | str z => walk_at "rd"; simpa using q0
        | byt _ => cases hx
        | flt _ => cases hx
        | ref _ => cases hx
        | ty _ => cases hx
      · have le := Paired.len p
        have turn : ∀ (i : Nat) (H' : Hp), Same H H' → i < ys.length → ∃ u v : V, atI xs (i : Int) = some u ∧ atI ys (i : Int) = some v ∧ SameV H' n u v := by
          intro i H' s1 hi
          have hx : xs[i]? = some xs[i] := List.getElem?_eq_getElem (by omega)
          obtain ⟨v, ev, sv⟩ := Paired.get1 p hx
          exact ⟨_, v, atI_nat hx, atI_nat ev, sv.same s1⟩
        rcases hab with ⟨ha, hb⟩ | ⟨ha, hb⟩
        · walk_at "rd"
          all_goals first | exact absurd ‹(!true) = true› (by decide) | (exfalso; omega) | skip
          refine ⟨_, rfl, by omega, by omega, ?_⟩
          refine for_range (lo := 0) (n := ys.length) (fun i σ H' => ∃ x2, σ = [some (.ref a), some (.ref b), x2, none] ∧ Same H H') ⟨none, rfl, fun _ _ e => e⟩ ?_ ?_
          · rintro i σ H' hi ⟨x2, rfl, s1⟩
            obtain ⟨u, v, hu, hv, sv⟩ := turn i H' s1 hi
            have ha' := s1 _ _ ha
            have hb' := s1 _ _ hb
            rw [show (0 : Int) + (i : Int) = i by omega]
            walk_at "rd"
            refine ⟨u, v, rfl, sv, fun H2 s2 => ?_⟩
            walk_at "rd"
            all_goals first | exact absurd ‹(!true) = true› (by decide) | exact ⟨_, rfl, s1.trans s2⟩
          · rintro σ H' ⟨x2, rfl, s1⟩
            walk_at "rd"
            exact q _ s1
        · walk_at "rd"
          all_goals first | exact absurd ‹(!true) = true› (by decide) | (exfalso; omega) | skip
          refine ⟨_, rfl, by omega, by omega, ?_⟩
          refine for_range (lo := 0) (n := ys.length) (fun i σ H' => ∃ x2, σ = [some (.ref a), some (.ref b), x2, none] ∧ Same H H') ⟨none, rfl, fun _ _ e => e⟩ ?_ ?_
          · rintro i σ H' hi ⟨x2, rfl, s1⟩
            obtain ⟨u, v, hu, hv, sv⟩ := turn i H' s1 hi
            have ha' := s1 _ _ ha
            have hb' := s1 _ _ hb
            rw [show (0 : Int) + (i : Int) = i by omega]
            walk_at "rd"
            refine ⟨u, v, rfl, sv, fun H2 s2 => ?_⟩
            walk_at "rd"
            all_goals first | exact absurd ‹(!true) = true› (by decide) | exact ⟨_, rfl, s1.trans s2⟩
          · rintro σ H' ⟨x2, rfl, s1⟩
            walk_at "rd"
            exact q _ s1
theorem ok_law_same (T : Txt K mg) : FnOk P w K mg base CX0 7 T.f_law_same T.fd_law_same ["got", "due"] (spSame 5) := ok_same_n T 5
end
end K29
namespace K29
open PySem PySem.Spec PyProof.Rows L2 D0
local macro_rules | `(tactic| walk_at "neB") => `(tactic| with_reducible first | assumption | (apply Ne.symm; assumption) | (refine' BagAt.ne ?x ?h; (case h => assumption); (case x => assumption)))
local macro_rules | `(tactic| walk_at "hq") => `(tactic| with_reducible first | assumption | exact upd_same | ((first | (refine' hp_new ?nn ?hq; (case nn => assumption)) | (refine' Off.get ?f ?ne ?hq; (case f => assumption); (case ne => walk_at "neB"))); (case hq => walk_at "hq")))
local macro_rules | `(tactic| walk_at "neA") => `(tactic| with_reducible first | (refine' BagAt.ne ?x ?h; (case h => assumption); (case x => assumption)) | (refine' ne_of_none ?x ?h; (case h => assumption); (case x => walk_at "hq")))
local macro_rules | `(tactic| walk_at "ne") => `(tactic| with_reducible first | assumption | (apply Ne.symm; assumption) | walk_at "neA" | (apply Ne.symm; walk_at "neA"))
local macro_rules | `(tactic| walk_at "off") => `(tactic| with_reducible repeat' (first | assumption | exact Off.refl _ _ | apply Off.set | (refine' Off.new ?_ ?h; (case h => assumption)) | (refine' Off.trans ?_ ?f; (case f => assumption))))
local macro_rules | `(tactic| walk_at "hp") => `(tactic| with_reducible first | assumption | exact upd_same | ((first | (refine' hp_new ?nn ?hp; (case nn => assumption)) | (refine' hp_set ?ne ?hp; (case ne => walk_at "ne")) | (refine' Off.get ?f ?ne ?hp; (case f => assumption); (case ne => walk_at "ne"))); (case hp => walk_at "hp")))
local macro_rules | `(tactic| walk_at "sq") => `(tactic| with_reducible first | assumption | (refine' SqL.of ?hh; (case hh => walk_at "hp")) | ((first | (refine' sq_new ?nn ?sq; (case nn => assumption)) | (refine' sq_set ?ne ?sq; (case ne => walk_at "ne")) | (refine' Off.seq ?f ?ne ?sq; (case f => assumption); (case ne => walk_at "ne"))); (case sq => walk_at "sq")))
local macro_rules | `(tactic| walk_at "sqt") => `(tactic| with_reducible first | assumption | (refine' SqT.of ?hh; (case hh => walk_at "hp")) | ((first | (refine' sqt_new ?nn ?sq; (case nn => assumption)) | (refine' sqt_set ?ne ?sq; (case ne => walk_at "ne")) | (refine' Off.seqT ?f ?ne ?sq; (case f => assumption); (case ne => walk_at "ne"))); (case sq => walk_at "sqt")))
/- straight-line steps of a reading -/
local macro_rules | `(tactic| walk_at "at") => `(tactic| first | assumption | rfl | exact atI_nat (j := 0) rfl | exact atI_nat (j := 1) rfl | exact atI_nat (j := 2) rfl | exact at_ints (by omega) (by omega))
local macro_rules | `(tactic| walk_at "sz") => `(tactic| first | assumption | decide | exact sz4 (by omega) | exact sz4' (by omega) | (simp only [List.length_map, List.length_append, List.length_cons, List.length_nil, List.length_range, List.length_replicate]; first | exact sz4 (by omega) | exact sz4' (by omega) | omega))
local macro_rules | `(tactic| walk_at "mul") => `(tactic| first | exact .inr ⟨by decide, by decide⟩ | exact mul_fm (by decide) (by decide) | exact .inl ⟨by omega, by omega⟩ | exact .inr ⟨by omega, by omega⟩)
local macro_rules | `(tactic| walk_at "div") => `(tactic| with_reducible first | exact div97 | exact div3 | exact div2 | exact div_m (by assumption) (by assumption))
local macro_rules | `(tactic| walk_at "nz") => `(tactic| first | decide | omega)
local macro_rules | `(tactic| walk_at "rd") => `(tactic| repeat' walk_at "rd1")
local macro_rules | `(tactic| walk_at "rdA") => `(tactic| with_reducible first
  | refine rd_op ?_
  | refine rd_c ?_
  | refine rd_cb ?_
  | refine rd_cons ?_
  | refine rd_nil ?_
  | refine rd_bl ?_
  | refine rd_ii ?_
  | refine rd_M1 ?_
  | refine rd_M0 ?_
  | refine rd_isS ?_
  | refine rd_test ?_
  | refine rd_B ?_
  | refine rd_and ?_
  | refine rd_or ?_
  | refine rd_not ?_
  | refine rd_andV ?_
  | refine rd_orV ?_
  | refine rd_notV ?_
  | refine rd_ifE ?_
  | refine rd_chain ?_
  | refine rd_seq ?_
  | refine rd_if ?_
  | refine rd_asg ?_
  | refine rd_gname ?_
  | refine rd_gsub ?_
  | refine rd_drop ?_
  | refine rd_ret ?_
  | refine rd_retN ?_
  | refine rd_brk ?_
  | refine rd_cnt ?_
  | refine rd_next ?_
  | refine rd_tup ?_
  | refine rd_lst ?_
  | refine rd_BM ?_
  | refine rd_gcons ?_
  | refine rd_gnil ?_
  | refine rd_sl ?_
  | refine rd_nopart ?_
  | refine rd_part ?_
  | refine rd_un ?_
  | refine rd_call ?_
  | refine rd_callN ?_
  | refine rd_fld ?_
  | refine rd_sfld ?_
  | refine rd_meth ?_
  | refine rd_make ?_
  | refine rd_stat ?_
  | refine rv_stat ?_
  | refine rd_lenSet ?_
  | refine rd_dget ?_
  | refine rd_din ?_
  | refine rd_dnin ?_
  | refine rd_dput ?_
  | refine rd_dnewK ?_
  | refine rd_dnewT ?_
  | refine rd_listRg ?_
  | refine rd_rg1 ?_
  | refine rd_rg2 ?_
  | refine rv_i2 ?_
  | refine rd_yes ?_
  | refine rd_iList ?_
  | refine rd_iTup ?_
  | refine rd_augS ?_
  | refine rv_ipI ?_
  | refine rd_zipA ?_
  | refine rd_enumT ?_
  | refine rd_for ?_
  | refine rd_rng1 ?_
  | refine rd_revL ?_
  | refine rv_addI ?_
  | refine rv_sub ?_
  | refine rv_lt ?_
  | refine rv_le ?_
  | refine rv_gt ?_
  | refine rv_ge ?_
  | refine rv_eqI ?_
  | refine rv_neI ?_
  | refine rv_eqS ?_
  | refine rv_eqB ?_
  | refine rv_neS ?_
  | refine rv_neB ?_
  | refine rv_int ?_
  | refine rv_inS ?_
  | refine rv_isNn ?_
  | refine rv_isNr ?_
  | refine rv_isNi ?_
  | refine rv_isNb ?_
  | refine rv_isNs ?_
  | refine rv_notNn ?_
  | refine rv_notNr ?_
  | refine rv_notNi ?_
  | refine rv_ninS ?_
  | refine rv_abs ?_
  | refine rv_max2 ?_
  | refine rv_min2 ?_
  | refine rv_ord ?_
  | refine rv_neg ?_
  | refine iteT ?_
  | refine iteF ?_
  | refine iteD (fun h => ?_) (fun h => ?_)
  | refine iteND (fun h => ?_) (fun h => ?_))
local macro_rules | `(tactic| walk_at "rd1") => `(tactic| first
  | ((with_reducible refine' rd_andB ?h ?_); (case h => (intro Qe hq; walk_at "rd"; exact hq)))
  | ((with_reducible refine' rd_orB ?h ?_); (case h => (intro Qe hq; walk_at "rd"; exact hq)))
  | walk_at "rdA"
  | ((with_reducible refine' rd_var ?h ?_); (case h => rfl))
  | ((with_reducible refine' rd_wipe ?h ?_); (case h => rfl))
  | ((with_reducible refine' rd_aug ?h ?_); (case h => rfl))
  | ((with_reducible refine' rv_ixL ?h ?c ?_); (case h => walk_at "sq"); (case c => walk_at "at"))
  | ((with_reducible refine' rv_ixS ?h ?c ?_); (case h => walk_at "sz"); (case c => walk_at "at"))
  | ((with_reducible refine' rv_setL ?h ?c ?_); (case h => walk_at "hp"); (case c => rfl))
  | ((with_reducible refine' rv_mulI ?h ?_); (case h => walk_at "mul"))
  | ((with_reducible refine' rv_mod ?h ?_); (case h => walk_at "nz"))
  | ((with_reducible refine' rv_div ?h ?_); (case h => walk_at "div"))
  | ((with_reducible refine' rv_pow ?h ?_); (case h => exact ⟨by decide, by decide, by decide⟩))
  | ((with_reducible refine' rv_get ?h ?h0 ?c ?_); (case h => walk_at "sq"); (case h0 => omega); (case c => walk_at "at"))
  | ((with_reducible refine' rv_lenL ?h ?_); (case h => walk_at "sq"))
  | ((with_reducible refine' rv_lenS ?h ?_); (case h => walk_at "sz"))
  | ((with_reducible refine' rv_addS ?h ?_); (case h => walk_at "sz"))
  | ((with_reducible refine' rd_tyL ?h ?_); (case h => walk_at "sq"))
  | (with_reducible refine rd_tyS ?_)
  | ((with_reducible refine' rv_inL ?h ?hx ?hf ?_); (case h => walk_at "sq"); (case hx => rfl); (case hf => rfl))
  | ((with_reducible refine' rv_ninL ?h ?hx ?hf ?_); (case h => walk_at "sq"); (case hx => rfl); (case hf => rfl))
  | ((with_reducible refine' rv_all ?h ?_); (case h => walk_at "sq"))
  | ((with_reducible refine' rv_addL ?h1 ?h2 ?h3 (fun p hp => ?_)); (case h1 => walk_at "hp"); (case h2 => walk_at "hp"); (case h3 => walk_at "sz"))
  | (with_reducible refine iteB (fun h => ?_) (fun h => ?_))
  | (refine ⟨rfl, rfl, ?_⟩)
  | ((with_reducible refine' rv_up ?h ?_); (case h => omega))
  | ((with_reducible refine' rv_iL ?h ?_); (case h => walk_at "sq"))
  | ((with_reducible refine' rv_iT ?h ?_); (case h => walk_at "sqt"))
  | ((with_reducible refine' rv_listL ?h (fun p hp => ?_)); (case h => walk_at "sq"))
  | ((with_reducible refine' rv_listT ?h (fun p hp => ?_)); (case h => walk_at "sqt"))
  | ((with_reducible refine' rv_tupL ?h (fun p hp => ?_)); (case h => walk_at "sq"))
  | ((with_reducible refine' rv_tupT ?h ?_); (case h => walk_at "sqt"))
  | ((with_reducible refine' rv_ixT ?h ?c ?_); (case h => walk_at "sqt"); (case c => walk_at "at"))
  | ((with_reducible refine' rd_gtup ?h ?c ?_); (case h => walk_at "sqt"); (case c => rfl))
  | ((with_reducible refine' rv_lenT ?h ?_); (case h => walk_at "sqt"))
  | ((with_reducible refine' rv_isiB ?h ?_); (case h => with_reducible first | exact isi_bool_bool | exact isi_bool_int | exact isi_bool_str | exact isi_bool_list | exact isi_bool_tuple | exact isi_bool_dict))
  | ((with_reducible refine' rv_isiI ?h ?_); (case h => with_reducible first | exact isi_int_bool | exact isi_int_int | exact isi_int_str | exact isi_int_list | exact isi_int_tuple | exact isi_int_dict))
  | ((with_reducible refine' rv_isiS ?h ?_); (case h => with_reducible first | exact isi_str_bool | exact isi_str_int | exact isi_str_str | exact isi_str_list | exact isi_str_tuple | exact isi_str_dict))
  | ((with_reducible refine' rv_isiN ?h ?_); (case h => with_reducible first | exact isi_NoneType_bool | exact isi_NoneType_int | exact isi_NoneType_str | exact isi_NoneType_list | exact isi_NoneType_tuple | exact isi_NoneType_dict))
  | ((with_reducible refine' rv_isiL ?e ?h ?_); (case e => walk_at "hp"); (case h => with_reducible first | exact isi_list_bool | exact isi_list_int | exact isi_list_str | exact isi_list_list | exact isi_list_tuple | exact isi_list_dict))
  | ((with_reducible refine' rv_isiT ?e ?h ?_); (case e => walk_at "hp"); (case h => with_reducible first | exact isi_tuple_bool | exact isi_tuple_int | exact isi_tuple_str | exact isi_tuple_list | exact isi_tuple_tuple | exact isi_tuple_dict))
  | ((with_reducible refine' rv_revL ?h ?_); (case h => walk_at "sq"))
  | (with_reducible refine fun (p : Addr) (hp : _ = none) => ?_)
  | ((with_reducible refine' rv_slL ?h (fun p hp => ?_)); (case h => walk_at "sq"))
  | ((with_reducible refine' rv_slS ?h ?_); (case h => walk_at "sz"))
  | ((with_reducible refine' rv_ext ?h ?h2 ?c ?_); (case h => walk_at "hp"); (case h2 => walk_at "hp"); (case c => walk_at "sz"))
  | (refine ⟨(by simp only [List.length_cons, List.length_nil]; decide), fun p hp => ?_⟩)
  | ((with_reducible refine' rv_app ?h ?c ?_); (case h => walk_at "hp"); (case c => walk_at "sz"))
  )
local macro_rules | `(tactic| walk_at "bag") => `(tactic| first | assumption | (refine ⟨_, _, _, _, _, upd_same, (by assumption), ?hp, (by omega), (by omega)⟩; (case hp => walk_at "hp")) | exact ⟨_, _, _, _, _, (by assumption), (by assumption), (by assumption), (by assumption), (by assumption)⟩ | (refine BagAt.new ?_ (by assumption); walk_at "bag") | (refine BagAt.put ?_ (by assumption) (by assumption); walk_at "bag"))

/-- the table, the rows beside it, and the bag, apart from one another -/
structure St (C b c : Addr) (cs : List Int) (H : Hp) (p : Addr) (n : Nat) (t : Addr) (rs : List Addr) (l : Addr) (ls : List Addr) (tabC tab : List (List Int)) : Prop where
  B : BagAt b c cs H
  CA : CostsAt C H p n t rs tabC
  TA : TabAt H l ls tab
  nd : ls.Nodup
  nl : l ∉ ls
  sb : ∀ x ∈ t :: rs, x ≠ b ∧ x ≠ c
  sl : ∀ x ∈ l :: ls, x ≠ b ∧ x ≠ c ∧ x ∉ t :: rs
theorem St.same {C b c : Addr} {cs : List Int} {H H' : Hp} {p : Addr} {n : Nat} {t : Addr} {rs : List Addr} {l : Addr} {ls : List Addr} {tabC tab : List (List Int)} (x : St C b c cs H p n t rs l ls tabC tab) (s : Same H H') : St C b c cs H' p n t rs l ls tabC tab :=
  ⟨x.B.same s, x.CA.same s, x.TA.same s, x.nd, x.nl, x.sb, x.sl⟩
theorem St.off {C b c : Addr} {cs : List Int} {H H' : Hp} {p : Addr} {n : Nat} {t : Addr} {rs : List Addr} {l : Addr} {ls : List Addr} {tabC tab : List (List Int)} (x : St C b c cs H p n t rs l ls tabC tab) (f : Off b H H') (B' : BagAt b c cs H') : St C b c cs H' p n t rs l ls tabC tab :=
  ⟨B', x.CA.off f (bag_ne x.B x.CA.ob.choose_spec).1 (fun y hy => (x.sb y hy).1), x.TA.off f (fun y hy => (x.sl y hy).1), x.nd, x.nl, x.sb, x.sl⟩
theorem St.new {C b c : Addr} {cs : List Int} {H0 H : Hp} {p : Addr} {n : Nat} {t : Addr} {rs : List Addr} {l : Addr} {ls : List Addr} {tabC tab : List (List Int)} (B0 : BagAt b c cs H0) (B : BagAt b c cs H) (CA : CostsAt C H p n t rs tabC) (TA : TabAt H l ls tab) (nd : ls.Nodup) (nl : l ∉ ls)
    (ft : ∀ x ∈ t :: rs, H0 x = none) (fl : ∀ x ∈ l :: ls, x ≠ b ∧ x ≠ c ∧ x ∉ t :: rs) : St C b c cs H p n t rs l ls tabC tab :=
  ⟨B, CA, TA, nd, nl, fun x hx => ⟨B0.ne (ft x hx), B0.ne2 (ft x hx)⟩, fl⟩
theorem St.setT {C b c : Addr} {cs : List Int} {H : Hp} {p : Addr} {n : Nat} {t : Addr} {rs : List Addr} {l : Addr} {ls : List Addr} {tabC tab : List (List Int)} (x : St C b c cs H p n t rs l ls tabC tab) {i : Nat} {r : Addr} {row : List Int} (hrow : tab[i]? = some row) (er : ls[i]? = some r) (j : Nat) (v : Int) :
    St C b c cs (upd H r (.lst ((row.set j v).map V.int))) p n t rs l ls tabC (putT tab i j v) ∧ OffS [r] H (upd H r (.lst ((row.set j v).map V.int))) ∧ upd H r (.lst ((row.set j v).map V.int)) r = some (.lst ((row.set j v).map V.int)) := by
  have rm := List.mem_of_getElem? er
  have rl := x.sl r (List.mem_cons_of_mem _ rm)
  have fr : OffS [r] H (upd H r (.lst ((row.set j v).map V.int))) := (OffS.refl _ _).set (by simp)
  obtain ⟨r2, e1, ehr, _⟩ := x.TA.get hrow
  rw [er] at e1; cases e1
  refine ⟨⟨x.B.put rl.1 rl.2.1, ?_, ?_, x.nd, x.nl, x.sb, x.sl⟩, fr, upd_same⟩
  · obtain ⟨dx, ob⟩ := x.CA.ob
    refine x.CA.offs fr (fun h => ?_) (fun h => ?_) (fun y hy h => ?_)
    · rw [List.mem_singleton.mp h, ehr] at ob; cases ob
    · exact rl.2.2 (by rw [← List.mem_singleton.mp h]; simp)
    · exact rl.2.2 (by rw [← List.mem_singleton.mp h]; exact List.mem_cons_of_mem _ hy)
  · unfold putT
    rw [getD_of hrow]
    exact x.TA.put x.nd x.nl er _
theorem St.setC {C b c : Addr} {cs : List Int} {H H' : Hp} {p : Addr} {n : Nat} {t : Addr} {rs : List Addr} {l : Addr} {ls : List Addr} {tabC tabC' tab : List (List Int)} (x : St C b c cs H p n t rs l ls tabC tab) {r' : Addr} (hr' : r' ∈ rs) (fx : OffS [r'] H H') (CA' : CostsAt C H' p n t rs tabC') : St C b c cs H' p n t rs l ls tabC' tab := by
  have hm : r' ∈ t :: rs := List.mem_cons_of_mem _ hr'
  exact ⟨x.B.offs fx (fun h => (x.sb r' hm).1 (List.mem_singleton.mp h).symm) (fun h => (x.sb r' hm).2 (List.mem_singleton.mp h).symm), CA', x.TA.offs fx (fun h => (x.sl l (by simp)).2.2 (by rw [List.mem_singleton.mp h]; exact hm)) (fun y hy h => (x.sl y (List.mem_cons_of_mem _ hy)).2.2 (by rw [List.mem_singleton.mp h]; exact hm)), x.nd, x.nl, x.sb, x.sl⟩
theorem St.lstC {C b c : Addr} {cs : List Int} {H : Hp} {p : Addr} {n : Nat} {t : Addr} {rs : List Addr} {l : Addr} {ls : List Addr} {tabC tab : List (List Int)} (x : St C b c cs H p n t rs l ls tabC tab) {r' : Addr} (hr' : r' ∈ rs) : ∃ ys, H r' = some (.lst ys) := TabAt.lsts x.CA.tb r' (List.mem_cons_of_mem _ hr')
theorem put_dg {n : Nat} {tab : List (List Int)} {i j : Nat} {v : Int} (lt : tab.length = n) (sq : ∀ row ∈ tab, row.length = n) (hi : i < n) (hj : j < n) (ne : i ≠ j) (dg : ∀ k, k < n → gT tab k k = 0) : ∀ k, k < n → gT (putT tab i j v) k k = 0 := fun k hk => by
  rw [gT_put (by omega) (by rw [sq_getD lt sq hi]; exact hj), if_neg (by omega)]
  exact dg k hk
theorem put_nn {n : Nat} {tab : List (List Int)} {i j : Nat} {v : Int} (lt : tab.length = n) (sq : ∀ row ∈ tab, row.length = n) (hi : i < n) (hj : j < n) (hv : 0 ≤ v) (nn : ∀ x y, 0 ≤ gT tab x y) : ∀ x y, 0 ≤ gT (putT tab i j v) x y := fun x y => by
  rw [gT_put (by omega) (by rw [sq_getD lt sq hi]; exact hj)]
  by_cases h : x = i ∧ y = j
  · rw [if_pos h]; exact hv
  · rw [if_neg h]; exact nn x y
theorem put_back {n : Nat} {tab : List (List Int)} {i j : Nat} {v : Int} (lt : tab.length = n) (sq : ∀ row ∈ tab, row.length = n) (hi : i < n) (hj : j < n) : putT (putT tab i j v) i j (gT tab i j) = tab := by
  have n1 := putT_sq (x := i) (y := j) (c := v) lt sq hi
  have n2 := putT_sq (x := i) (y := j) (c := gT tab i j) n1.1 n1.2 hi
  refine tab_ext n2.1 n2.2 lt sq fun x y hx hy => ?_
  rw [gT_put (by rw [n1.1]; exact hi) (by rw [sq_getD n1.1 n1.2 hi]; exact hj), gT_put (by omega) (by rw [sq_getD lt sq hi]; exact hj)]
  by_cases h : x = i ∧ y = j
  · rw [if_pos h, h.1, h.2]
  · rw [if_neg h, if_neg h]
theorem put_add {n : Nat} {tab : List (List Int)} {i j : Nat} (lt : tab.length = n) (sq : ∀ row ∈ tab, row.length = n) (hi : i < n) (hj : j < n) : addT n tab (putT (mkT n fun _ _ => 0) i j 1) = putT tab i j (gT tab i j + 1) := by
  have q1 := putT_sq (x := i) (y := j) (c := gT tab i j + 1) lt sq hi
  refine tab_ext (mkT_len ..) (mkT_sq _ _) q1.1 q1.2 fun x y hx hy => ?_
  unfold addT
  rw [gT_mk _ hx hy, gT_put (tab := mkT n fun _ _ => 0) (by rw [mkT_len]; exact hi) (by rw [sq_getD (mkT_len ..) (mkT_sq _ _) hi]; exact hj), gT_put (by omega) (by rw [sq_getD lt sq hi]; exact hj), gT_mk _ hx hy]
  by_cases h : x = i ∧ y = j
  · rw [if_pos h, if_pos h, h.1, h.2]
  · rw [if_neg h, if_neg h]; omega
theorem same_ints {H : Hp} : ∀ row : List Int, Paired (SameV H 3) (row.map V.int) (row.map V.int)
  | [] => .nil
  | _ :: r => .cons (.inl ⟨rfl, rfl⟩) (same_ints r)
structure Due (H : Hp) (x : Addr) (n : Nat) (tab : List (List Int)) : Prop where
  at_ : ∃ y, H x = some (.tup [.int (best (gT tab) n (List.range n)), .ref y]) ∧ H y = some (.tup (natsV (greedy (gT tab) n (List.range n))))
theorem Due.same {H H' : Hp} {x : Addr} {n : Nat} {tab : List (List Int)} (d : Due H x n tab) (s : Same H H') : Due H' x n tab := by
  obtain ⟨y, e1, e2⟩ := d.at_
  exact ⟨y, s _ _ e1, s _ _ e2⟩
theorem Due.offs {S : List Addr} {H H' : Hp} {x : Addr} {n : Nat} {tab : List (List Int)} (d : Due H x n tab) (f : OffS S H H') (h : ∀ a ∈ S, ∀ ys, H a ≠ some (.tup ys)) : Due H' x n tab := by
  obtain ⟨y, e1, e2⟩ := d.at_
  exact ⟨y, f _ _ (fun m => h _ m _ e1) e1, f _ _ (fun m => h _ m _ e2) e2⟩
theorem Due.off {b c : Addr} {cs : List Int} {H H' : Hp} {x : Addr} {n : Nat} {tab : List (List Int)} (d : Due H x n tab) (B : BagAt b c cs H) (f : Off b H H') : Due H' x n tab := by
  refine d.offs (S := [b]) (OffS.of_off f (by simp)) fun a ha ys e => ?_
  obtain ⟨_, _, _, _, _, e1, _, _, _⟩ := B
  rw [List.mem_singleton.mp ha, e1] at e; cases e
theorem Due.lst {r : Addr} {zs : List V} {H H' : Hp} {x : Addr} {n : Nat} {tab : List (List Int)} (d : Due H x n tab) (f : OffS [r] H H') (e : H r = some (.lst zs)) : Due H' x n tab :=
  d.offs f fun a ha ys e' => by rw [List.mem_singleton.mp ha, e] at e'; cases e'
theorem same_nats {H : Hp} {k : Nat} : ∀ o : List Nat, Paired (SameV H (k + 1)) (natsV o) (natsV o)
  | [] => .nil
  | _ :: r => .cons (.inl ⟨rfl, rfl⟩) (same_nats r)
theorem Due.eq {H : Hp} {x x' : Addr} {n : Nat} {tab : List (List Int)} (d : Due H x n tab) (d' : Due H x' n tab) (hn : n ≤ 9) (dg : ∀ i, i < n → gT tab i i = 0) : SameV H 5 (.ref x) (.ref x') := by
  obtain ⟨y, e1, e2⟩ := d.at_
  obtain ⟨y', e1', e2'⟩ := d'.at_
  have gp := (greedy_perm (gT tab) n (List.range n) List.nodup_range List.length_range fun v hv => dg v (List.mem_range.mp hv)).1.length_eq
  rw [List.length_range] at gp
  exact .inr ⟨x, x', _, _, rfl, rfl, by simp, .inl ⟨e1, e1'⟩, .cons (.inl ⟨rfl, rfl⟩) (.cons (.inr ⟨y, y', _, _, rfl, rfl, by rw [natsV_len]; omega, .inl ⟨e2, e2'⟩, same_nats _⟩) .nil)⟩
section
variable {P : Program} {w : World} {K : PySem.W.Frag} {mg : Str → Option Value} {base : Heap}
def spLaw (K : PySem.W.Frag) : Sp := fun vs H Q _ => ∃ (a : Addr) (ns : List Int), vs = [.ref a] ∧ SqL K H a (ns.map V.int) ∧ ns.length ≤ 63 ∧ ∀ H', Q (.bl true) H'
theorem ok_law (T : Txt K mg) {f : Addr} {fd : FuncData} (F : Fun K "law" "law" s_law f fd) : FnOk P w K mg base CX0 8 f fd ["script"] (spLaw K) := by
  refine F.ok sc_law (fun vs H Q E h => ?_) (fun cdv A outer s H vs Q E hr h => ?_)
  · obtain ⟨a, ns, rfl, _⟩ := h
    rfl
  · obtain ⟨a, ns, rfl, hS, hl, q⟩ := h
    refine ⟨_, (pss_cons (ps_set (i := 1) sc_law.nd rfl (by first | exact Or.inl rfl | exact Or.inr rfl) (pe_call (ok_law_bag T) (hr.mono (by omega)) (by rfl) T.g_law_bag T.F_law_bag.kp T.b_law_bag .nil pass0 (pa_cons (pv 0) pa_nil)))
   (pss_cons (ps_set (i := 2) sc_law.nd rfl (by first | exact Or.inl rfl | exact Or.inr rfl) (pe_call (ok_law_draw T) (hr.mono (by omega)) (by rfl) T.g_law_draw T.F_law_draw.kp T.b_law_draw .nil pass0 (pa_cons (pv 1) (pa_cons pe_int pa_nil))))
   (C8.pss_cut (ps_if (pt_cmpR dEq (pe_call (ok_law_draw T) (hr.mono (by omega)) (by rfl) T.g_law_draw T.F_law_draw.kp T.b_law_draw .nil pass0 (pa_cons (pv 1) (pa_cons pe_int pa_nil))) pe_int (nomark _))
    (pss_one (ps_set (i := 2) sc_law.nd rfl (by first | exact Or.inl rfl | exact Or.inr rfl) (pe_op (dAdd K) (pv 2) (pe_call (ok_law_draw T) (hr.mono (by omega)) (by rfl) T.g_law_draw T.F_law_draw.kp T.b_law_draw .nil pass0 (pa_cons (pv 1) (pa_cons pe_int pa_nil))))))
    pss_nil)
   (pss_cons (ps_set (i := 3) sc_law.nd rfl (by first | exact Or.inl rfl | exact Or.inr rfl) (pe_call (ok_law_lifted T) (hr.mono (by omega)) (by rfl) T.g_law_lifted T.F_law_lifted.kp T.b_law_lifted .nil pass0 (pa_cons (pv 1) (pa_cons (pe_call (ok_law_cost_rows T) (hr.mono (by omega)) (by rfl) T.g_law_cost_rows T.F_law_cost_rows.kp T.b_law_cost_rows .nil pass0 (pa_cons (pv 1) (pa_cons (pv 2) pa_nil))) pa_nil))))
   (pss_cons (ps_set (i := 4) sc_law.nd rfl (by first | exact Or.inl rfl | exact Or.inr rfl) (pe_call (ok_law_table_made T) (hr.mono (by omega)) (by rfl) T.g_law_table_made T.F_law_table_made.kp T.b_law_table_made .nil pass0 (pa_cons (pv 1) (pa_cons (pv 3) pa_nil))))
   (pss_cons (ps_set (i := 5) sc_law.nd rfl (by first | exact Or.inl rfl | exact Or.inr rfl) (pe_call (ok_law_due_order T) (hr.mono (by omega)) (by rfl) T.g_law_due_order T.F_law_due_order.kp T.b_law_due_order .nil pass0 (pa_cons (pv 3) pa_nil)))
   (pss_cons (ps_if (pt_not (pt_val (pe_call (ok_law_same T) (hr.mono (by omega)) (by rfl) T.g_law_same T.F_law_same.kp T.b_law_same .nil pass0 (pa_cons (pe_call (ok_least_order T) (hr.mono (by omega)) (by rfl) T.g_least_order T.F_least_order.kp T.b_least_order .nil pass0 (pa_cons (pv 4) pa_nil)) (pa_cons (pv 5) pa_nil)))))
    (pss_one (ps_ret pe_bl))
    pss_nil)
   (C8.pss_cut (ps_if (pt_cmpR dGt (pv 2) pe_int (nomark _))
    (pss_cons (ps_set (i := 6) sc_law.nd rfl (by first | exact Or.inl rfl | exact Or.inr rfl) (pe_call (ok_law_draw T) (hr.mono (by omega)) (by rfl) T.g_law_draw T.F_law_draw.kp T.b_law_draw .nil pass0 (pa_cons (pv 1) (pa_cons (pv 2) pa_nil))))
    (pss_cons (ps_set (i := 7) sc_law.nd rfl (by first | exact Or.inl rfl | exact Or.inr rfl) (pe_op dMod (pe_callTy dInt (by rfl) T.n_int (by decide +kernel) (pa_cons (pe_op (dAdd K) (pe_op (dAdd K) (pv 6) pe_int) (pe_call (ok_law_draw T) (hr.mono (by omega)) (by rfl) T.g_law_draw T.F_law_draw.kp T.b_law_draw .nil pass0 (pa_cons (pv 1) (pa_cons (pe_op dSub (pv 2) pe_int) pa_nil)))) pa_nil)) (pv 2)))
    (pss_cons (ps_set (i := 8) sc_law.nd rfl (by first | exact Or.inl rfl | exact Or.inr rfl) (pe_ix (dIx K) (pv 3) (pv 6) (fun _ _ => rfl)))
    (pss_cons (ps_set (i := 9) sc_law.nd rfl (by first | exact Or.inl rfl | exact Or.inr rfl) (pe_ix (dIx K) (pv 8) (pv 7) (fun _ _ => rfl)))
    (pss_cons (ps_asg (pe_ix (dIx K) (pe_lst (pa_cons pe_int (pa_cons pe_int (pa_cons (pe_call (ok_law_draw T) (hr.mono (by omega)) (by rfl) T.g_law_draw T.F_law_draw.kp T.b_law_draw .nil pass0 (pa_cons (pv 1) (pa_cons pe_int pa_nil))) (pa_cons (pe_call (ok_law_draw T) (hr.mono (by omega)) (by rfl) T.g_law_draw T.F_law_draw.kp T.b_law_draw .nil pass0 (pa_cons (pv 1) (pa_cons pe_int pa_nil))) pa_nil))))) (pe_call (ok_law_draw T) (hr.mono (by omega)) (by rfl) T.g_law_draw T.F_law_draw.kp T.b_law_draw .nil pass0 (pa_cons (pv 1) (pa_cons pe_int pa_nil))) (fun _ _ => rfl)) (pg_sub (pv 8) (pv 7) set_list))
    (pss_cons (ps_asg (pe_ix (dIx K) (pv 8) (pv 7) (fun _ _ => rfl)) (pg_sub (pv 4) (pe_tup (pa_cons (pv 6) (pa_cons (pv 7) pa_nil))) (set_own (ok_Costs___setitem__ T) (hr.mono (by omega)) T.b_Costs___setitem__ pass0 T.ow_Costs___setitem__)))
    (pss_cons (ps_if (pt_not (pt_val (pe_call (ok_law_same T) (hr.mono (by omega)) (by rfl) T.g_law_same T.F_law_same.kp T.b_law_same .nil pass0 (pa_cons (pe_call (ok_least_order T) (hr.mono (by omega)) (by rfl) T.g_least_order T.F_least_order.kp T.b_least_order .nil pass0 (pa_cons (pv 4) pa_nil)) (pa_cons (pe_call (ok_law_due_order T) (hr.mono (by omega)) (by rfl) T.g_law_due_order T.F_law_due_order.kp T.b_law_due_order .nil pass0 (pa_cons (pv 3) pa_nil)) pa_nil)))))
     (pss_one (ps_ret pe_bl))
     pss_nil)
    (pss_cons (ps_asg (pv 9) (pg_sub (pv 8) (pv 7) set_list))
    (pss_one (ps_expr (pe_meth (pv 4) T.cl_Costs T.me_Costs_put (ok_Costs_put T) (hr.mono (by omega)) T.b_Costs_put .nil pass0 (pa_cons (pv 6) (pa_cons (pv 7) (pa_cons (pv 9) pa_nil))))))))))))))
    pss_nil)
   (pss_cons (ps_if (pt_not (pt_val (pe_call (ok_law_same T) (hr.mono (by omega)) (by rfl) T.g_law_same T.F_law_same.kp T.b_law_same .nil pass0 (pa_cons (pe_call (ok_least_order T) (hr.mono (by omega)) (by rfl) T.g_least_order T.F_least_order.kp T.b_least_order .nil pass0 (pa_cons (pv 4) pa_nil)) (pa_cons (pv 5) pa_nil)))))
    (pss_one (ps_ret pe_bl))
    pss_nil)
   (C8.pss_cut (ps_if (pt_cmpR dGt (pv 2) pe_int (nomark _))
    (pss_cons (ps_set (i := 10) sc_law.nd rfl (by first | exact Or.inl rfl | exact Or.inr rfl) (pe_make T.mk_Costs (ok_Costs___init__ T) (hr.mono (by omega)) (by rfl) T.mg_Costs T.b_Costs___init__ .nil pass0 (pa_cons (pv 2) pa_nil)))
    (pss_cons (ps_expr (pe_meth (pv 10) T.cl_Costs T.me_Costs_put (ok_Costs_put T) (hr.mono (by omega)) T.b_Costs_put .nil pass0 (pa_cons (pv 6) (pa_cons (pv 7) (pa_cons pe_int pa_nil)))))
    (pss_cons (ps_aug (i := 4) sc_law.nd rfl (by first | exact Or.inl rfl | exact Or.inr rfl) (pv 10) (ip_own (ok_Costs___iadd__ T) (hr.mono (by omega)) T.b_Costs___iadd__ pass0 T.ow_Costs___iadd__))
    (pss_cons (ps_asg (pe_op (dAdd K) (pv 9) pe_int) (pg_sub (pv 8) (pv 7) set_list))
    (pss_one (ps_if (pt_not (pt_val (pe_call (ok_law_same T) (hr.mono (by omega)) (by rfl) T.g_law_same T.F_law_same.kp T.b_law_same .nil pass0 (pa_cons (pe_call (ok_least_order T) (hr.mono (by omega)) (by rfl) T.g_least_order T.F_least_order.kp T.b_least_order .nil pass0 (pa_cons (pv 4) pa_nil)) (pa_cons (pe_call (ok_law_due_order T) (hr.mono (by omega)) (by rfl) T.g_law_due_order T.F_law_due_order.kp T.b_law_due_order .nil pass0 (pa_cons (pv 3) pa_nil)) pa_nil)))))
     (pss_one (ps_ret pe_bl))
     pss_nil))))))
    pss_nil)
   (pss_cons (ps_setLc (i := 11) (own := [("row", 13)]) (g := gName 13) (tt := tYes) rfl sc_law.nd rfl rfl (sw_true rfl rfl rfl (by decide +kernel)) (dpi_list K (pv 3)) (blkOk_by (own := [("row", 13)]) (N := ["script", "bag", "size", "rows", "costs", "due", "a", "b", "changed", "held", "more", "double", "one", "row"]) (sc := defScope s_law) (by decide +kernel)) (fun _ _ _ _ _ => (pg_name (i := 13) sc_law.nd rfl (by first | exact Or.inl rfl | exact Or.inr rfl))) (fun _ _ _ _ _ => pts_nil) (fun _ _ _ _ _ => (pe_lc (own := [("one", 12)]) (g := gName 12) (tt := tYes) rfl sc_law.nd  (dpi_list K (pv 13)) (blkOk_by (own := [("one", 12)]) (N := ["script", "bag", "size", "rows", "costs", "due", "a", "b", "changed", "held", "more", "double", "one", "row"]) (by rfl)) (fun _ _ _ _ _ => (pg_name (i := 12) sc_law.nd rfl (by first | exact Or.inl rfl | exact Or.inr rfl))) (fun _ _ _ _ _ => pts_nil) (fun _ _ _ _ _ => (pe_op dMul pe_int (pv 12))))))
   (pss_cons (ps_if (pt_not (pt_val (pe_call (ok_law_same T) (hr.mono (by omega)) (by rfl) T.g_law_same T.F_law_same.kp T.b_law_same .nil pass0 (pa_cons (pe_call (ok_least_order T) (hr.mono (by omega)) (by rfl) T.g_least_order T.F_least_order.kp T.b_least_order .nil pass0 (pa_cons (pe_op (op_own (ok_Costs___add__ T) (hr.mono (by omega)) T.b_Costs___add__ pass0 T.ow_Costs___add__) (pv 4) (pv 4)) pa_nil)) (pa_cons (pe_call (ok_law_due_order T) (hr.mono (by omega)) (by rfl) T.g_law_due_order T.F_law_due_order.kp T.b_law_due_order .nil pass0 (pa_cons (pv 11) pa_nil)) pa_nil)))))
    (pss_one (ps_ret pe_bl))
    pss_nil)
   (pss_one (ps_ret (pe_call (ok_law_same T) (hr.mono (by omega)) (by rfl) T.g_law_same T.F_law_same.kp T.b_law_same .nil pass0 (pa_cons (pe_meth0 (pv 4) T.cl_Costs T.me_Costs_rows (ok_Costs_rows T) (hr.mono (by omega)) T.b_Costs_rows .nil pass0) (pa_cons (pe_callTy (dTuple K) (by rfl) T.n_tuple (by decide +kernel) (pa_cons (pe_lc (own := [("row", 13)]) (g := gName 13) (tt := tYes) rfl sc_law.nd  (dpi_list K (pv 3)) (blkOk_by (own := [("row", 13)]) (N := ["script", "bag", "size", "rows", "costs", "due", "a", "b", "changed", "held", "more", "double", "one", "row"]) (sc := defScope s_law) (by decide +kernel)) (fun _ _ _ _ _ => (pg_name (i := 13) sc_law.nd rfl (by first | exact Or.inl rfl | exact Or.inr rfl))) (fun _ _ _ _ _ => pts_nil) (fun _ _ _ _ _ => (pe_callTy (dTuple K) (by rfl) T.n_tuple (by decide +kernel) (pa_cons (pv 13) pa_nil)))) pa_nil)) pa_nil))))))))))))))))), ?_⟩
    walk_at "rd"
    refine ⟨a, ns, rfl, hS, hl, fun H1 b c cs s1 b0 B1 => ?_⟩
    walk_at "rd"
    refine ⟨b, c, cs, 6, rfl, by decide, by decide, B1, fun H2 m f2 B2 m0 m1 => ?_⟩
    obtain ⟨n0, rfl⟩ : ∃ n : Nat, m = n := ⟨m.toNat, by omega⟩
    walk_at "rd"
    refine ⟨fun σ H' => ∃ n : Nat, n ≤ 8 ∧ σ = [some (.ref a), some (.ref b), some (.int n), none, none, none, none, none, none, none, none, none, none, none] ∧ BagAt b c cs H', ?_, ?_⟩
    · walk_at "rd"
      refine ⟨b, c, cs, 16, rfl, by decide, by decide, B2, fun H3 k f3 B3 k0 k1 => ?_⟩
      walk_at "rd"
      · refine ⟨b, c, cs, 4, rfl, by decide, by decide, B3, fun H4 e f4 B4 e0 e1 => ?_⟩
        obtain ⟨e, rfl⟩ : ∃ n : Nat, e = n := ⟨e.toNat, by omega⟩
        walk_at "rd"
        exact ⟨n0 + e, by omega, rfl, B4⟩
      · exact ⟨n0, by omega, rfl, B3⟩
    · rintro σ H3 ⟨n, hn, rfl, B3⟩
      walk_at "rd"
      refine ⟨b, c, cs, n, rfl, by omega, B3, fun H4 l0 ls0 tab0 f4 B4 TA4 lt0 sq0 dg0 ng0 nd0 nl0 l00 ls00 => ?_⟩
      walk_at "rd"
      refine ⟨b, c, cs, n, l0, ls0, tab0, rfl, by omega, B4, TA4, lt0, sq0, dg0, ng0, nd0, nl0, cons_all (P := fun x => x ≠ b ∧ x ≠ c) ⟨B3.ne l00, B3.ne2 l00⟩ (fun r hr => ⟨B3.ne (ls00 r hr), B3.ne2 (ls00 r hr)⟩), fun H5 l ls tab f5 B5 TA5 lt sq dg ng nd nl sl => ?_⟩
      walk_at "rd"
      refine ⟨b, c, cs, n, l, ls, tab, rfl, by omega, B5, TA5, lt, sq, dg, fun i j => (ng i j).1, (sl l (by simp)).1, fun r hr => (sl r (List.mem_cons_of_mem _ hr)).1, fun H6 p t rs f6 B6 CA6 p0 t0 rs0 => ?_⟩
      have X6 : St T.C_Costs b c cs H6 p n t rs l ls tab tab := St.new B5 B6 CA6 (TA5.off f6 fun x hx => (sl x hx).1) nd nl (cons_all t0 rs0) fun x hx => ⟨(sl x hx).1, (sl x hx).2, apart (TabAt.lsts TA5) (cons_all t0 rs0) x hx⟩
      walk_at "rd"
      have nn : ∀ i j, 0 ≤ gT tab i j := fun i j => (ng i j).1
      refine ⟨n, l, ls, tab, rfl, by omega, X6.TA, lt, sq, dg, nn, fun H7 x x' s7 ex ex' => ?_⟩
      have D7 : Due H7 x n tab := ⟨x', ex, ex'⟩
      have X7 := X6.same s7
      walk_at "rd"
      refine ⟨n, p, t, rs, tab, rfl, by omega, X7.CA, dg, fun H8 y y' s8 ey ey' => ?_⟩
      have D8 := D7.same s8
      walk_at "rd"
      refine ⟨_, _, rfl, Due.eq ⟨y', ey, ey'⟩ D8 (by omega) dg, fun H9 s9 => ?_⟩
      have X9 := (X7.same s8).same s9
      have D9 := D8.same s9
      walk_at "rd"
      · exact absurd ‹(!true) = true› (by decide)
      refine ⟨fun σ H' => ∃ (x6 x7 x8 x9 : Option V), σ = [some (.ref a), some (.ref b), some (.int n), some (.ref l), some (.ref p), some (.ref x), x6, x7, x8, x9, none, none, none, none] ∧ St T.C_Costs b c cs H' p n t rs l ls tab tab ∧ Due H' x n tab ∧ (1 < n → ∃ (i j : Nat) (r : Addr), x6 = some (.int i) ∧ x7 = some (.int j) ∧ x8 = some (.ref r) ∧ x9 = some (.int (gT tab i j)) ∧ i < n ∧ j < n ∧ i ≠ j ∧ ls[i]? = some r), ?_, ?_⟩
      · walk_at "rd"
        · refine ⟨b, c, cs, n, rfl, by omega, Int.lt_of_le_of_lt (show (n : Int) ≤ 100 by omega) (by decide), X9.B, fun H15 i f15 B15 i0 i1 => ?_⟩
          obtain ⟨i, rfl⟩ : ∃ m : Nat, i = m := ⟨i.toNat, by omega⟩
          have X15 := X9.off f15 B15
          have D15 := D9.off X9.B f15
          walk_at "rd"
          refine ⟨b, c, cs, _, rfl, by omega, Int.lt_of_le_of_lt (show (n : Int) - 1 ≤ 100 by omega) (by decide), X15.B, fun H16 dd f16 B16 d0 d1 => ?_⟩
          obtain ⟨dd, rfl⟩ : ∃ m : Nat, dd = m := ⟨dd.toNat, by omega⟩
          have X16 := X15.off f16 B16
          have D16 := D15.off X15.B f16
          obtain ⟨j, ej, hj, nij⟩ := ring_next (n := n) (i := i) (d := dd) (by omega) (by omega)
          have hi : i < n := by omega
          have gi : tab[i]? = some tab[i] := List.getElem?_eq_getElem (show i < tab.length by omega)
          obtain ⟨r, er, ehr, ar⟩ := X16.TA.get gi
          have el16 := X16.TA.tb
          have rm := List.mem_of_getElem? er
          have rl := X16.sl r (List.mem_cons_of_mem _ rm)
          have hrow := sq _ (List.mem_of_getElem? gi)
          have av0 := row_at lt sq hi hj
          walk_at "rd"
          rw [ej]
          walk_at "rd"
          refine ⟨b, c, cs, 10, rfl, by decide, by decide, X16.B, fun H17 v1 f17 B17 u0 u1 => ?_⟩
          have X17 := X16.off f17 B17
          have D17 := D16.off X16.B f17
          have ehr17 := f17.get rl.1 ehr
          walk_at "rd"
          refine ⟨b, c, cs, 1000000001, rfl, by decide, by decide, X17.B, fun H18 v2 f18 B18 w0 w1 => ?_⟩
          have X18 := X17.off f18 B18
          have D18 := D17.off X17.B f18
          have ehr18 := f18.get rl.1 ehr17
          walk_at "rd"
          rename_i z hz
          refine ⟨b, c, cs, 4, rfl, by decide, by decide, X18.B.new hz, fun H19 m f19 B19 m0 m1 => ?_⟩
          have sz := same_upd hz (o := .lst [V.int 0, V.int 1, V.int v1, V.int v2])
          have ez := f19.get (X18.B.ne hz) (upd_same (H := H18) (a := z) (o := .lst [V.int 0, V.int 1, V.int v1, V.int v2]))
          have X19 := (X18.same sz).off f19 B19
          have D19 := (D18.same sz).off (X18.B.same sz) f19
          have ehr19 := f19.get rl.1 (sz _ _ ehr18)
          obtain ⟨v, v0, ev⟩ : ∃ v : Int, 0 ≤ v ∧ atI [V.int 0, V.int 1, V.int v1, V.int v2] m = some (.int v) := by
            have : m = 0 ∨ m = 1 ∨ m = 2 ∨ m = 3 := by omega
            rcases this with rfl | rfl | rfl | rfl
            · exact ⟨0, by decide, rfl⟩
            · exact ⟨1, by decide, rfl⟩
            · exact ⟨v1, u0, rfl⟩
            · exact ⟨v2, w0, rfl⟩
          walk_at "rd"
          refine rv_setL ehr19 (by rw [List.length_map]; exact ixN_of (by omega)) ?_
          rw [setm_int]
          obtain ⟨X20, f20, ehr20⟩ := X19.setT gi er j v
          have D20 := D19.lst f20 ehr19
          have n1 := putT_sq (x := i) (y := j) (c := v) lt sq hi
          have dg1 := put_dg (v := v) lt sq hi hj nij dg
          have nn1 := put_nn (v := v) lt sq hi hj v0 nn
          generalize upd H19 r (.lst ((tab[i].set j v).map V.int)) = H20 at X20 f20 ehr20 D20 ⊢
          have av1 : atI ((tab[i].set j v).map V.int) (j : Int) = some (.int v) := by
            refine atI_nat ?_
            rw [List.getElem?_map, List.getElem?_set_self (by omega)]; rfl
          obtain ⟨dx, ob20⟩ := X20.CA.ob
          walk_at "rd"
          rename_i k hk
          refine rv_ownSet (hp_new hk ob20) ⟨p, k, n, i, j, v, t, rs, tab, rfl, upd_same, X20.CA.same (same_upd hk), hi, hj, nij, fun H21 r' hr' f21 CA21 => ?_⟩
          have X21 := (X20.same (same_upd hk)).setC hr' f21 CA21
          obtain ⟨ys', ey'⟩ := X20.lstC hr'
          have rne : ∀ r2, r2 ∈ rs → r ∉ [r2] := fun r2 h2 h => rl.2.2 (by rw [List.mem_singleton.mp h]; exact List.mem_cons_of_mem _ h2)
          have D21 := (D20.same (same_upd hk)).lst f21 (hp_new hk ey')
          have ehr21 := f21 _ _ (rne r' hr') (hp_new hk ehr20)
          walk_at "rd"
          refine ⟨n, p, t, rs, _, rfl, by omega, X21.CA, dg1, fun H22 y1 y1' s22 e1 e1' => ?_⟩
          walk_at "rd"
          refine ⟨n, l, ls, _, rfl, by omega, X21.TA.same s22, n1.1, n1.2, dg1, nn1, fun H23 y2 y2' s23 e2 e2' => ?_⟩
          walk_at "rd"
          refine ⟨_, _, rfl, Due.eq (Due.same ⟨y1', e1, e1'⟩ s23) ⟨y2', e2, e2'⟩ (by omega) dg1, fun H24 s24 => ?_⟩
          have s2124 := (s22.trans s23).trans s24
          have X24 := X21.same s2124
          have D24 := D21.same s2124
          have ehr24 := s2124 _ _ ehr21
          walk_at "rd"
          · exact absurd ‹(!true) = true› (by decide)
          refine rv_setL ehr24 (by rw [List.length_map, List.length_set]; exact ixN_of (by omega)) ?_
          rw [setm_int]
          have gp : (putT tab i j v)[i]? = some (tab[i].set j v) := by
            unfold putT
            rw [getD_of gi, List.getElem?_set_self (by omega)]
          obtain ⟨X25, f25, ehr25⟩ := X24.setT gp er j (gT tab i j)
          rw [put_back lt sq hi hj] at X25
          have D25 := D24.lst f25 ehr24
          generalize upd H24 r (.lst (((tab[i].set j v).set j (gT tab i j)).map V.int)) = H25 at X25 f25 ehr25 D25 ⊢
          obtain ⟨dx2, ob25⟩ := X25.CA.ob
          walk_at "rd"
          refine rv_meth ob25 (cF_no _ _ (by decide +kernel) (by decide +kernel)) ?_
          walk_at "rd"
          refine ⟨p, n, i, j, gT tab i j, t, rs, _, rfl, X25.CA, hi, hj, nij, fun H26 r2 hr2 f26 CA26 => ?_⟩
          rw [put_back lt sq hi hj] at CA26
          have X26 := X25.setC hr2 f26 CA26
          obtain ⟨ys2, ey2⟩ := X25.lstC hr2
          have D26 := D25.lst f26 ey2
          exact ⟨_, _, _, _, rfl, X26, D26, fun _ => ⟨i, j, r, rfl, rfl, rfl, rfl, hi, hj, nij, er⟩⟩
        · exact ⟨_, _, _, _, rfl, X9, D9, fun h => by omega⟩
      · rintro σ H14 ⟨x6, x7, x8, x9, rfl, X14, D14, hx⟩
        walk_at "rd"
        refine ⟨n, p, t, rs, tab, rfl, by omega, X14.CA, dg, fun H25 y y' s25 ey ey' => ?_⟩
        walk_at "rd"
        refine ⟨_, _, rfl, Due.eq ⟨y', ey, ey'⟩ (D14.same s25) (by omega) dg, fun H26 s26 => ?_⟩
        have X26 := (X14.same s25).same s26
        walk_at "rd"
        · exact absurd ‹(!true) = true› (by decide)
        refine ⟨fun σ H' => ∃ (x6 x7 x8 x9 x10 : Option V) (p t : Addr) (rs : List Addr) (l : Addr) (ls : List Addr) (tab : List (List Int)), σ = [some (.ref a), some (.ref b), some (.int n), some (.ref l), some (.ref p), some (.ref x), x6, x7, x8, x9, x10, none, none, none] ∧ St T.C_Costs b c cs H' p n t rs l ls tab tab ∧ (∀ i, i < n → gT tab i i = 0) ∧ (∀ i j, 0 ≤ gT tab i j), ?_, ?_⟩
        · walk_at "rd"
          · obtain ⟨i, j, r, rfl, rfl, rfl, rfl, hi, hj, nij, er⟩ := hx (by omega)
            have gi : tab[i]? = some tab[i] := List.getElem?_eq_getElem (show i < tab.length by omega)
            obtain ⟨r2, er2, ehr26, _⟩ := X26.TA.get gi
            rw [er] at er2
            cases er2
            have rm := List.mem_of_getElem? er
            have hrow := sq _ (List.mem_of_getElem? gi)
            intro x dx3 hx2 hdx ndx
            have sx : Same H26 (upd (upd H26 dx3 (.own x)) x (.ins T.C_Costs dx3 [])) := fun b o e => by
              rw [upd_ne (ne_of_none e hx2), upd_ne (ne_of_none e hdx)]
              exact e
            refine ⟨x, dx3, n, rfl, by omega, upd_same, fun H27 t2 rs2 kp CA27 t20 rs20 => ⟨rfl, ?_⟩⟩
            have s27 : Same H26 H27 := fun b o e => kp b o (sx b o e) (ne_of_none e hx2)
            have X27 := X26.same s27
            have fr2 : ∀ y ∈ t2 :: rs2, H26 y = none := cons_all (sx.free t20) fun y hy => sx.free (rs20 y hy)
            obtain ⟨dx27, ob27⟩ := CA27.ob
            walk_at "rd"
            refine rv_meth ob27 (cF_no _ _ (by decide +kernel) (by decide +kernel)) ?_
            walk_at "rd"
            refine ⟨x, n, i, j, 1, t2, rs2, _, rfl, CA27, hi, hj, nij, fun H28 r3 hr3 f28 CA28 => ?_⟩
            have z' := fr2 r3 (List.mem_cons_of_mem _ hr3)
            have s28 : Same H26 H28 := fun y o e => f28 y o (by simpa using ne_of_none e z') (s27 _ _ e)
            have X28 := X26.same s28
            obtain ⟨dx28, ob28⟩ := X28.CA.ob
            walk_at "rd"
            refine rv_own ob28 ⟨n, p, x, t, t2, rs, rs2, _, _, rfl, X28.CA, CA28, by omega, fun H29 t3 rs3 f29 CA29 t30 rs30 => ?_⟩
            rw [put_add lt sq hi hj] at CA29
            have f3 : ∀ y ∈ t3 :: rs3, H28 y = none := cons_all t30 rs30
            have lnp : ∀ y ∈ l :: ls, y ∉ [p] := fun y hy h => by
              obtain ⟨ys, e⟩ := TabAt.lsts X28.TA y hy
              rw [List.mem_singleton.mp h, ob28] at e; cases e
            have TA29 := X28.TA.offs f29 (lnp l (by simp)) fun y hy => lnp y (List.mem_cons_of_mem _ hy)
            have pb := bag_ne X28.B ob28
            have B29 : BagAt b c cs H29 := X28.B.offs f29 (fun h => pb.1 (List.mem_singleton.mp h).symm) (fun h => pb.2 (List.mem_singleton.mp h).symm)
            have X29 : St T.C_Costs b c cs H29 p n t3 rs3 l ls (putT tab i j (gT tab i j + 1)) tab := ⟨B29, CA29, TA29, X28.nd, X28.nl, fun y hy => ⟨X28.B.ne (f3 y hy), X28.B.ne2 (f3 y hy)⟩, fun y hy => ⟨(X28.sl y hy).1, (X28.sl y hy).2.1, apart (TabAt.lsts X28.TA) f3 y hy⟩⟩
            have ehr29 := f29 _ _ (lnp r (List.mem_cons_of_mem _ rm)) (s28 _ _ ehr26)
            walk_at "rd"
            refine rv_setL ehr29 (by rw [List.length_map]; exact ixN_of (by omega)) ?_
            rw [setm_int]
            obtain ⟨X30, f30, ehr30⟩ := X29.setT gi er j (gT tab i j + 1)
            have n3 := putT_sq (x := i) (y := j) (c := gT tab i j + 1) lt sq hi
            have dg3 := put_dg (v := gT tab i j + 1) lt sq hi hj nij dg
            have nn3 := put_nn (v := gT tab i j + 1) lt sq hi hj (by have := nn i j; omega) nn
            generalize upd H29 r (.lst ((tab[i].set j (gT tab i j + 1)).map V.int)) = H30 at X30 f30 ehr30 ⊢
            walk_at "rd"
            refine ⟨n, p, t3, rs3, _, rfl, by omega, X30.CA, dg3, fun H31 y1 y1' s31 e1 e1' => ?_⟩
            walk_at "rd"
            refine ⟨n, l, ls, _, rfl, by omega, X30.TA.same s31, n3.1, n3.2, dg3, nn3, fun H32 y2 y2' s32 e2 e2' => ?_⟩
            walk_at "rd"
            refine ⟨_, _, rfl, Due.eq (Due.same ⟨y1', e1, e1'⟩ s32) ⟨y2', e2, e2'⟩ (by omega) dg3, fun H33 s33 => ?_⟩
            have X33 := ((X30.same s31).same s32).same s33
            walk_at "rd"
            · exact absurd ‹(!true) = true› (by decide)
            exact ⟨_, _, _, _, _, _, _, _, _, _, _, rfl, X33, dg3, nn3⟩
          · exact ⟨_, _, _, _, _, _, _, _, _, _, _, rfl, X26, dg, nn⟩
        · rintro σ H15 ⟨x6, x7, x8, x9, x10, p, t, rs, l, ls, tab, rfl, X15, dg, nn⟩
          have lt := X15.CA.sz
          have sq := X15.CA.sq
          walk_at "rd"
          have el15 := X15.TA.tb
          refine rd_lc ?_
          walk_at "rd"
          refine lc_fresh (walk_list (K := K) (a := l) (xs := ls.map V.ref)) (fun i => (List.range n).map fun j => 2 * gT tab i j) (by rw [List.length_map, X15.TA.len]; omega) (fun H' s => SqL.of (s _ _ el15)) same_at ?_ ?_
          · rintro i x H' H10 Nx E hi s10 s10' ⟨rfl, hx⟩ hN
            rw [List.length_map, X15.TA.len] at hi
            have gi := List.getElem?_eq_getElem hi
            obtain ⟨r, e1, e2, _⟩ := X15.TA.get gi
            rw [List.getElem?_map, e1] at hx
            cases hx
            have e3 := s10 _ _ e2
            have hrow := sq _ (List.mem_of_getElem? gi)
            walk_at "rd"
            refine rd_lc ?_
            walk_at "rd"
            refine lc_pureF (walk_list (K := K) (a := r) (xs := (tab[i]).map V.int)) (fun _ => true) (fun j => .int (2 * gT tab i j)) (by rw [List.length_map]; omega) (fun H' s => SqL.of (s _ _ e3)) same_at ?_ ?_
            · rintro j x H' H11 Nx' E' hj s11 s11' ⟨rfl, hx'⟩ hN' _
              rw [List.length_map] at hj
              rw [List.getElem?_map, List.getElem?_eq_getElem hj] at hx'
              cases hx'
              rw [show gT tab i j = tab[i][j] by rw [gT_row gi]; exact getD_of (List.getElem?_eq_getElem hj)] at hN'
              walk_at "rd"
              exact hN' rfl _ fun _ _ e => e
            · intro D3 H11 hD3 s11 e11
              refine hN D3 H11 s11 hD3 ?_
              rw [e11, List.filter_eq_self.mpr fun _ _ => rfl, List.map_map, List.length_map, hrow]
              rfl
          · intro D2 gs2 H16 hD2 s16 eD2 pr2 nd2' fr2
            rw [List.length_map, X15.TA.len, lt] at pr2
            have X16 := X15.same s16
            have TD2 : TabAt H16 D2 gs2 (mkT n fun i j => 2 * gT tab i j) := tab_range (mkT_len ..) eD2 (paired_mapP pr2 fun r i hm h => by
              rw [h, getD_of (mkT_get _ (List.mem_range.mp hm))])
            have ez : zeroD (addT n tab tab) n = mkT n fun i j => 2 * gT tab i j := tab_ext (mkT_len ..) (mkT_sq _ _) (mkT_len ..) (mkT_sq _ _) fun i j hi hj => by
              unfold zeroD addT
              rw [gT_mk _ hi hj, gT_mk _ hi hj, gT_mk _ hi hj]
              by_cases h : i = j
              · subst h
                rw [if_neg (fun z => z rfl), dg i hi]; rfl
              · rw [if_pos h]; omega
            have dg2 : ∀ i, i < n → gT (mkT n fun i j => 2 * gT tab i j) i i = 0 := fun i hi => by rw [gT_mk _ hi hi, dg i hi]; rfl
            have nn2 : ∀ i j, 0 ≤ gT (mkT n fun i j => 2 * gT tab i j) i j := fun i j => by
              by_cases h : i < n ∧ j < n
              · rw [gT_mk _ h.1 h.2]; have := nn i j; omega
              · rw [gT_out (mkT_len ..) (mkT_sq _ _) h]; exact Int.le_refl _
            obtain ⟨dx, ob16⟩ := X16.CA.ob
            walk_at "rd"
            refine rv_own2 ob16 ob16 ⟨n, p, p, t, t, rs, rs, _, _, rfl, X16.CA, X16.CA, by omega, fun H17 p3 t3 rs3 s17 CA17 p30 t30 rs30 => ?_⟩
            rw [ez] at CA17
            walk_at "rd"
            refine ⟨n, p3, t3, rs3, _, rfl, by omega, CA17, dg2, fun H18 y1 y1' s18 e1 e1' => ?_⟩
            walk_at "rd"
            refine ⟨n, D2, gs2, _, rfl, by omega, (TD2.same s17).same s18, mkT_len .., mkT_sq _ _, dg2, nn2, fun H19 y2 y2' s19 e2 e2' => ?_⟩
            walk_at "rd"
            refine ⟨_, _, rfl, Due.eq (Due.same ⟨y1', e1, e1'⟩ s19) ⟨y2', e2, e2'⟩ (by omega) dg2, fun H20 s20 => ?_⟩
            have X20 := (((X16.same s17).same s18).same s19).same s20
            obtain ⟨dx2, ob20⟩ := X20.CA.ob
            walk_at "rd"
            · exact absurd ‹(!true) = true› (by decide)
            refine rv_meth ob20 (cF_no _ _ (by decide +kernel) (by decide +kernel)) ?_
            walk_at "rd"
            refine ⟨p, n, t, rs, tab, rfl, by omega, X20.CA, fun H21 u ps s21 eu pp => ?_⟩
            have TA2 := X20.TA.same s21
            have el2 := TA2.tb
            have ll := TA2.len
            walk_at "rd"
            refine rd_lc ?_
            walk_at "rd"
            refine lc_pureT (walk_list (K := K) (a := l) (xs := ls.map V.ref)) tab (fun H y row => ∃ u, y = .ref u ∧ H u = some (.tup (row.map V.int))) (by rw [List.length_map]; omega) (by rw [List.length_map]; omega) (fun H' s => SqL.of (s _ _ el2)) same_at (fun H1 H2 y r ts ⟨u, e, h⟩ => ⟨u, e, ts _ _ h⟩) ?_ ?_
            · rintro i row x' H' H3 Nx E er s s3 ⟨rfl, hx'⟩ hN
              obtain ⟨r, e1, e2, _⟩ := TA2.get er
              rw [List.getElem?_map, e1] at hx'
              cases hx'
              have e3 := s _ _ e2
              walk_at "rd"
              rename_i z hz
              exact hN _ _ (same_upd hz) ⟨z, rfl, upd_same⟩
            · intro D2 ys H5 hD2 s5 e5 pr5
              obtain ⟨zs, rfl, pz⟩ := refs_of pr5
              walk_at "rd"
              rename_i v hv
              have s6 := s5.trans (same_upd hv (o := .tup (zs.map V.ref)))
              have lps : ps.length = zs.length := by rw [Paired.len pp, Paired.len pz]
              refine ⟨_, _, rfl, .inr ⟨u, v, _, _, rfl, rfl, by rw [List.length_map, Paired.len pp, lt]; omega, .inl ⟨s6 _ _ eu, upd_same⟩, ?_⟩, fun H7 s7 => ?_⟩
              · refine Paired.of_get (by rw [List.length_map, List.length_map, lps]) fun i x y h1 h2 => ?_
                rw [List.getElem?_map] at h1 h2
                obtain ⟨x', e1, rfl⟩ := Option.map_eq_some_iff.mp h1
                obtain ⟨y', e2, rfl⟩ := Option.map_eq_some_iff.mp h2
                obtain ⟨row, er, hx'⟩ := Paired.get1 pp e1
                obtain ⟨row', er', hy'⟩ := Paired.get1 pz e2
                rw [er] at er'; cases er'
                have hr' := sq row (List.mem_of_getElem? er)
                exact .inr ⟨x', y', _, _, rfl, rfl, by rw [List.length_map]; omega, .inl ⟨s6 _ _ hx', hp_new hv hy'⟩, same_ints row⟩
              · walk_at "rd"
                exact q _
end
end K29
namespace K29
open PySem PySem.Spec PyProof.Rows L2 D0
theorem all_mk {l : PySem.W.OpenLaw} {w : World} {K : PySem.W.Frag} {h : Heap} {mg : Str → Option Value} {fa f0 f1 f2 f3 f4 f5 f6 f7 f8 f9 f10 f11 f12 f13 f14 f15 f16 f17 f18 f19 f20 f21 f22 f23 f24 f25 : Addr} (X : K.In h) (G : h.Ns mainGlobals mg) (hfa : mg "law" = some (.ref fa))
    {C_Costs : Addr}
    (aC_Costs : PySem.W.nsIn K mainGlobals "Costs" = some (some (.ref C_Costs)))
    (pg_Costs : PySem.W.plainGet K C_Costs Str.empty = true)
    (hd_Costs : PySem.W.hasDictIn K C_Costs = true)
    (po_Costs : PySem.W.plainOver K C_Costs = true)
    (sa_Costs : PySem.W.findIn K (.ref C_Costs) "__setattr__" = some (some (.builtin "object.__setattr__")))
    (mk_Costs : PySem.W.makesIn K C_Costs = true)
    (kc_Costs : PySem.W.keepIn K (.ref C_Costs) = true)
    (na_Costs_size : PySem.W.findIn K (.ref C_Costs) "size" = some none)
    (na_Costs__table : PySem.W.findIn K (.ref C_Costs) "_table" = some none)
    (no_Costs : PySem.W.noSeq K C_Costs = true)
    (sf_Costs : PySem.W.selfFirst K C_Costs = true)
    (rd_Costs : PySem.W.readsIn K C_Costs (.type "type") = true)
    (ga_Costs : PySem.W.specialIn K (.ref C_Costs) "__getattribute__" = some (some (.builtin "type.__getattribute__")))
    {f_Costs___init__ : Addr} {od_Costs___init__ an_Costs___init__ : Option Addr} {sl_Costs___init__ : Array (Option Value)} {oc_Costs___init__ kV_Costs___init__ dc_Costs___init__ pm_Costs___init__ cd_Costs___init__ ct_Costs___init__ : Value}
    (a_Costs___init__ : PySem.W.findIn K (.ref C_Costs) "__init__" = some (some (.ref f_Costs___init__)))
    (i_Costs___init__ : PySem.W.isFn K (.ref f_Costs___init__) = true)
    (l_Costs___init__ : K.lookup f_Costs___init__ = some ⟨oc_Costs___init__, od_Costs___init__, .func (PySem.W.fnOf "__init__" "Costs.__init__" (defArgs s_Costs___init__) (defBody s_Costs___init__) (defScope s_Costs___init__) .none kV_Costs___init__ dc_Costs___init__ pm_Costs___init__ an_Costs___init__ cd_Costs___init__ ct_Costs___init__), sl_Costs___init__⟩)
    (c_Costs___init__ : PySem.W.codeIn K cd_Costs___init__ "Costs.__init__" = true)
    (k_Costs___init__ : PySem.W.keepIn K (.ref f_Costs___init__) = true)
    {f_Costs___iter__ : Addr} {od_Costs___iter__ an_Costs___iter__ : Option Addr} {sl_Costs___iter__ : Array (Option Value)} {oc_Costs___iter__ kV_Costs___iter__ dc_Costs___iter__ pm_Costs___iter__ cd_Costs___iter__ ct_Costs___iter__ : Value}
    (a_Costs___iter__ : PySem.W.findIn K (.ref C_Costs) "__iter__" = some (some (.ref f_Costs___iter__)))
    (i_Costs___iter__ : PySem.W.isFn K (.ref f_Costs___iter__) = true)
    (l_Costs___iter__ : K.lookup f_Costs___iter__ = some ⟨oc_Costs___iter__, od_Costs___iter__, .func (PySem.W.fnOf "__iter__" "Costs.__iter__" (defArgs s_Costs___iter__) (defBody s_Costs___iter__) (defScope s_Costs___iter__) .none kV_Costs___iter__ dc_Costs___iter__ pm_Costs___iter__ an_Costs___iter__ cd_Costs___iter__ ct_Costs___iter__), sl_Costs___iter__⟩)
    (c_Costs___iter__ : PySem.W.codeIn K cd_Costs___iter__ "Costs.__iter__" = true)
    (k_Costs___iter__ : PySem.W.keepIn K (.ref f_Costs___iter__) = true)
    {f_Costs___getitem__ : Addr} {od_Costs___getitem__ an_Costs___getitem__ : Option Addr} {sl_Costs___getitem__ : Array (Option Value)} {oc_Costs___getitem__ kV_Costs___getitem__ dc_Costs___getitem__ pm_Costs___getitem__ cd_Costs___getitem__ ct_Costs___getitem__ : Value}
    (a_Costs___getitem__ : PySem.W.findIn K (.ref C_Costs) "__getitem__" = some (some (.ref f_Costs___getitem__)))
    (i_Costs___getitem__ : PySem.W.isFn K (.ref f_Costs___getitem__) = true)
    (fi_Costs___getitem__ : PySem.W.fnIn K f_Costs___getitem__ = true)
    (l_Costs___getitem__ : K.lookup f_Costs___getitem__ = some ⟨oc_Costs___getitem__, od_Costs___getitem__, .func (PySem.W.fnOf "__getitem__" "Costs.__getitem__" (defArgs s_Costs___getitem__) (defBody s_Costs___getitem__) (defScope s_Costs___getitem__) .none kV_Costs___getitem__ dc_Costs___getitem__ pm_Costs___getitem__ an_Costs___getitem__ cd_Costs___getitem__ ct_Costs___getitem__), sl_Costs___getitem__⟩)
    (c_Costs___getitem__ : PySem.W.codeIn K cd_Costs___getitem__ "Costs.__getitem__" = true)
    (k_Costs___getitem__ : PySem.W.keepIn K (.ref f_Costs___getitem__) = true)
    {f_Costs___setitem__ : Addr} {od_Costs___setitem__ an_Costs___setitem__ : Option Addr} {sl_Costs___setitem__ : Array (Option Value)} {oc_Costs___setitem__ kV_Costs___setitem__ dc_Costs___setitem__ pm_Costs___setitem__ cd_Costs___setitem__ ct_Costs___setitem__ : Value}
    (a_Costs___setitem__ : PySem.W.findIn K (.ref C_Costs) "__setitem__" = some (some (.ref f_Costs___setitem__)))
    (i_Costs___setitem__ : PySem.W.isFn K (.ref f_Costs___setitem__) = true)
    (fi_Costs___setitem__ : PySem.W.fnIn K f_Costs___setitem__ = true)
    (l_Costs___setitem__ : K.lookup f_Costs___setitem__ = some ⟨oc_Costs___setitem__, od_Costs___setitem__, .func (PySem.W.fnOf "__setitem__" "Costs.__setitem__" (defArgs s_Costs___setitem__) (defBody s_Costs___setitem__) (defScope s_Costs___setitem__) .none kV_Costs___setitem__ dc_Costs___setitem__ pm_Costs___setitem__ an_Costs___setitem__ cd_Costs___setitem__ ct_Costs___setitem__), sl_Costs___setitem__⟩)
    (c_Costs___setitem__ : PySem.W.codeIn K cd_Costs___setitem__ "Costs.__setitem__" = true)
    (k_Costs___setitem__ : PySem.W.keepIn K (.ref f_Costs___setitem__) = true)
    {f_Costs___add__ : Addr} {od_Costs___add__ an_Costs___add__ : Option Addr} {sl_Costs___add__ : Array (Option Value)} {oc_Costs___add__ kV_Costs___add__ dc_Costs___add__ pm_Costs___add__ cd_Costs___add__ ct_Costs___add__ : Value}
    (a_Costs___add__ : PySem.W.findIn K (.ref C_Costs) (PySem.dunder Operator.Add.info.2) = some (some (.ref f_Costs___add__)))
    (i_Costs___add__ : PySem.W.isFn K (.ref f_Costs___add__) = true)
    (fi_Costs___add__ : PySem.W.fnIn K f_Costs___add__ = true)
    (l_Costs___add__ : K.lookup f_Costs___add__ = some ⟨oc_Costs___add__, od_Costs___add__, .func (PySem.W.fnOf "__add__" "Costs.__add__" (defArgs s_Costs___add__) (defBody s_Costs___add__) (defScope s_Costs___add__) .none kV_Costs___add__ dc_Costs___add__ pm_Costs___add__ an_Costs___add__ cd_Costs___add__ ct_Costs___add__), sl_Costs___add__⟩)
    (c_Costs___add__ : PySem.W.codeIn K cd_Costs___add__ "Costs.__add__" = true)
    (k_Costs___add__ : PySem.W.keepIn K (.ref f_Costs___add__) = true)
    {f_Costs___iadd__ : Addr} {od_Costs___iadd__ an_Costs___iadd__ : Option Addr} {sl_Costs___iadd__ : Array (Option Value)} {oc_Costs___iadd__ kV_Costs___iadd__ dc_Costs___iadd__ pm_Costs___iadd__ cd_Costs___iadd__ ct_Costs___iadd__ : Value}
    (a_Costs___iadd__ : PySem.W.findIn K (.ref C_Costs) (dunderI Operator.Add.info.2) = some (some (.ref f_Costs___iadd__)))
    (i_Costs___iadd__ : PySem.W.isFn K (.ref f_Costs___iadd__) = true)
    (fi_Costs___iadd__ : PySem.W.fnIn K f_Costs___iadd__ = true)
    (l_Costs___iadd__ : K.lookup f_Costs___iadd__ = some ⟨oc_Costs___iadd__, od_Costs___iadd__, .func (PySem.W.fnOf "__iadd__" "Costs.__iadd__" (defArgs s_Costs___iadd__) (defBody s_Costs___iadd__) (defScope s_Costs___iadd__) .none kV_Costs___iadd__ dc_Costs___iadd__ pm_Costs___iadd__ an_Costs___iadd__ cd_Costs___iadd__ ct_Costs___iadd__), sl_Costs___iadd__⟩)
    (c_Costs___iadd__ : PySem.W.codeIn K cd_Costs___iadd__ "Costs.__iadd__" = true)
    (k_Costs___iadd__ : PySem.W.keepIn K (.ref f_Costs___iadd__) = true)
    {f_Costs_put : Addr} {od_Costs_put an_Costs_put : Option Addr} {sl_Costs_put : Array (Option Value)} {oc_Costs_put kV_Costs_put dc_Costs_put pm_Costs_put cd_Costs_put ct_Costs_put : Value}
    (a_Costs_put : PySem.W.findIn K (.ref C_Costs) "put" = some (some (.ref f_Costs_put)))
    (i_Costs_put : PySem.W.isFn K (.ref f_Costs_put) = true)
    (l_Costs_put : K.lookup f_Costs_put = some ⟨oc_Costs_put, od_Costs_put, .func (PySem.W.fnOf "put" "Costs.put" (defArgs s_Costs_put) (defBody s_Costs_put) (defScope s_Costs_put) .none kV_Costs_put dc_Costs_put pm_Costs_put an_Costs_put cd_Costs_put ct_Costs_put), sl_Costs_put⟩)
    (c_Costs_put : PySem.W.codeIn K cd_Costs_put "Costs.put" = true)
    (k_Costs_put : PySem.W.keepIn K (.ref f_Costs_put) = true)
    {f_Costs_rows : Addr} {od_Costs_rows an_Costs_rows : Option Addr} {sl_Costs_rows : Array (Option Value)} {oc_Costs_rows kV_Costs_rows dc_Costs_rows pm_Costs_rows cd_Costs_rows ct_Costs_rows : Value}
    (a_Costs_rows : PySem.W.findIn K (.ref C_Costs) "rows" = some (some (.ref f_Costs_rows)))
    (i_Costs_rows : PySem.W.isFn K (.ref f_Costs_rows) = true)
    (l_Costs_rows : K.lookup f_Costs_rows = some ⟨oc_Costs_rows, od_Costs_rows, .func (PySem.W.fnOf "rows" "Costs.rows" (defArgs s_Costs_rows) (defBody s_Costs_rows) (defScope s_Costs_rows) .none kV_Costs_rows dc_Costs_rows pm_Costs_rows an_Costs_rows cd_Costs_rows ct_Costs_rows), sl_Costs_rows⟩)
    (c_Costs_rows : PySem.W.codeIn K cd_Costs_rows "Costs.rows" = true)
    (k_Costs_rows : PySem.W.keepIn K (.ref f_Costs_rows) = true)
    {f_Costs_of : Addr} {od_Costs_of an_Costs_of : Option Addr} {sl_Costs_of : Array (Option Value)} {oc_Costs_of kV_Costs_of dc_Costs_of pm_Costs_of cd_Costs_of ct_Costs_of : Value}
    {p_Costs_of : Addr} {rest_Costs_of : List Value}
    (a_Costs_of : PySem.W.findCls K (.ref C_Costs) (.type "type") "of" = some (.get (.builtin "staticmethod.__get__") (.ref p_Costs_of) .none (.ref C_Costs)))
    (r_Costs_of : PySem.W.recIn K p_Costs_of "staticmethod" = some (.ref f_Costs_of :: rest_Costs_of))
    (l_Costs_of : K.lookup f_Costs_of = some ⟨oc_Costs_of, od_Costs_of, .func (PySem.W.fnOf "of" "Costs.of" (defArgs s_Costs_of) (defBody s_Costs_of) (defScope s_Costs_of) .none kV_Costs_of dc_Costs_of pm_Costs_of an_Costs_of cd_Costs_of ct_Costs_of), sl_Costs_of⟩)
    (c_Costs_of : PySem.W.codeIn K cd_Costs_of "Costs.of" = true)
    (k_Costs_of : PySem.W.keepIn K (.ref f_Costs_of) = true)
    {od0 an0 od1 an1 od2 an2 od3 an3 od4 an4 od5 an5 od6 an6 od7 an7 od8 an8 od9 an9 od10 an10 od11 an11 od12 an12 od13 an13 od14 an14 od15 an15 od16 an16 od17 an17 od18 an18 od19 an19 od20 an20 od21 an21 od22 an22 od23 an23 od24 an24 od25 an25 : Option Addr} {sl0 sl1 sl2 sl3 sl4 sl5 sl6 sl7 sl8 sl9 sl10 sl11 sl12 sl13 sl14 sl15 sl16 sl17 sl18 sl19 sl20 sl21 sl22 sl23 sl24 sl25 : Array (Option Value)} {oc0 kV0 dc0 pm0 cd0 ct0 oc1 kV1 dc1 pm1 cd1 ct1 oc2 kV2 dc2 pm2 cd2 ct2 oc3 kV3 dc3 pm3 cd3 ct3 oc4 kV4 dc4 pm4 cd4 ct4 oc5 kV5 dc5 pm5 cd5 ct5 oc6 kV6 dc6 pm6 cd6 ct6 oc7 kV7 dc7 pm7 cd7 ct7 oc8 kV8 dc8 pm8 cd8 ct8 oc9 kV9 dc9 pm9 cd9 ct9 oc10 kV10 dc10 pm10 cd10 ct10 oc11 kV11 dc11 pm11 cd11 ct11 oc12 kV12 dc12 pm12 cd12 ct12 oc13 kV13 dc13 pm13 cd13 ct13 oc14 kV14 dc14 pm14 cd14 ct14 oc15 kV15 dc15 pm15 cd15 ct15 oc16 kV16 dc16 pm16 cd16 ct16 oc17 kV17 dc17 pm17 cd17 ct17 oc18 kV18 dc18 pm18 cd18 ct18 oc19 kV19 dc19 pm19 cd19 ct19 oc20 kV20 dc20 pm20 cd20 ct20 oc21 kV21 dc21 pm21 cd21 ct21 oc22 kV22 dc22 pm22 cd22 ct22 oc23 kV23 dc23 pm23 cd23 ct23 oc24 kV24 dc24 pm24 cd24 ct24 oc25 kV25 dc25 pm25 cd25 ct25 : Value}
    (a0 : PySem.W.nsIn K mainGlobals "least_order" = some (some (.ref f0))) (l0 : K.lookup f0 = some ⟨oc0, od0, .func (PySem.W.fnOf "least_order" "least_order" (defArgs s_least_order) (defBody s_least_order) (defScope s_least_order) .none kV0 dc0 pm0 an0 cd0 ct0), sl0⟩) (c0 : PySem.W.codeIn K cd0 "least_order" = true) (k0 : PySem.W.keepIn K (.ref f0) = true)
    (a1 : PySem.W.nsIn K mainGlobals "subset_table" = some (some (.ref f1))) (l1 : K.lookup f1 = some ⟨oc1, od1, .func (PySem.W.fnOf "subset_table" "subset_table" (defArgs s_subset_table) (defBody s_subset_table) (defScope s_subset_table) .none kV1 dc1 pm1 an1 cd1 ct1), sl1⟩) (c1 : PySem.W.codeIn K cd1 "subset_table" = true) (k1 : PySem.W.keepIn K (.ref f1) = true)
    (a2 : PySem.W.nsIn K mainGlobals "_subsets" = some (some (.ref f2))) (l2 : K.lookup f2 = some ⟨oc2, od2, .func (PySem.W.fnOf "_subsets" "_subsets" (defArgs s_subsets) (defBody s_subsets) (defScope s_subsets) .none kV2 dc2 pm2 an2 cd2 ct2), sl2⟩) (c2 : PySem.W.codeIn K cd2 "_subsets" = true) (k2 : PySem.W.keepIn K (.ref f2) = true)
    (a3 : PySem.W.nsIn K mainGlobals "_without" = some (some (.ref f3))) (l3 : K.lookup f3 = some ⟨oc3, od3, .func (PySem.W.fnOf "_without" "_without" (defArgs s_without) (defBody s_without) (defScope s_without) .none kV3 dc3 pm3 an3 cd3 ct3), sl3⟩) (c3 : PySem.W.codeIn K cd3 "_without" = true) (k3 : PySem.W.keepIn K (.ref f3) = true)
    (a4 : PySem.W.nsIn K mainGlobals "_price_with_last" = some (some (.ref f4))) (l4 : K.lookup f4 = some ⟨oc4, od4, .func (PySem.W.fnOf "_price_with_last" "_price_with_last" (defArgs s_price_with_last) (defBody s_price_with_last) (defScope s_price_with_last) .none kV4 dc4 pm4 an4 cd4 ct4), sl4⟩) (c4 : PySem.W.codeIn K cd4 "_price_with_last" = true) (k4 : PySem.W.keepIn K (.ref f4) = true)
    (a5 : PySem.W.nsIn K mainGlobals "_least_first" = some (some (.ref f5))) (l5 : K.lookup f5 = some ⟨oc5, od5, .func (PySem.W.fnOf "_least_first" "_least_first" (defArgs s_least_first) (defBody s_least_first) (defScope s_least_first) .none kV5 dc5 pm5 an5 cd5 ct5), sl5⟩) (c5 : PySem.W.codeIn K cd5 "_least_first" = true) (k5 : PySem.W.keepIn K (.ref f5) = true)
    (a6 : PySem.W.nsIn K mainGlobals "_price_with_first" = some (some (.ref f6))) (l6 : K.lookup f6 = some ⟨oc6, od6, .func (PySem.W.fnOf "_price_with_first" "_price_with_first" (defArgs s_price_with_first) (defBody s_price_with_first) (defScope s_price_with_first) .none kV6 dc6 pm6 an6 cd6 ct6), sl6⟩) (c6 : PySem.W.codeIn K cd6 "_price_with_first" = true) (k6 : PySem.W.keepIn K (.ref f6) = true)
    (a7 : PySem.W.nsIn K mainGlobals "_check_pair" = some (some (.ref f7))) (l7 : K.lookup f7 = some ⟨oc7, od7, .func (PySem.W.fnOf "_check_pair" "_check_pair" (defArgs s_check_pair) (defBody s_check_pair) (defScope s_check_pair) .none kV7 dc7 pm7 an7 cd7 ct7), sl7⟩) (c7 : PySem.W.codeIn K cd7 "_check_pair" = true) (k7 : PySem.W.keepIn K (.ref f7) = true)
    (a8 : PySem.W.nsIn K mainGlobals "_check_sizes" = some (some (.ref f8))) (l8 : K.lookup f8 = some ⟨oc8, od8, .func (PySem.W.fnOf "_check_sizes" "_check_sizes" (defArgs s_check_sizes) (defBody s_check_sizes) (defScope s_check_sizes) .none kV8 dc8 pm8 an8 cd8 ct8), sl8⟩) (c8 : PySem.W.codeIn K cd8 "_check_sizes" = true) (k8 : PySem.W.keepIn K (.ref f8) = true)
    (a9 : PySem.W.nsIn K mainGlobals "_copied" = some (some (.ref f9))) (l9 : K.lookup f9 = some ⟨oc9, od9, .func (PySem.W.fnOf "_copied" "_copied" (defArgs s_copied) (defBody s_copied) (defScope s_copied) .none kV9 dc9 pm9 an9 cd9 ct9), sl9⟩) (c9 : PySem.W.codeIn K cd9 "_copied" = true) (k9 : PySem.W.keepIn K (.ref f9) = true)
    (a10 : PySem.W.nsIn K mainGlobals "_added" = some (some (.ref f10))) (l10 : K.lookup f10 = some ⟨oc10, od10, .func (PySem.W.fnOf "_added" "_added" (defArgs s_added) (defBody s_added) (defScope s_added) .none kV10 dc10 pm10 an10 cd10 ct10), sl10⟩) (c10 : PySem.W.codeIn K cd10 "_added" = true) (k10 : PySem.W.keepIn K (.ref f10) = true)
    (a11 : PySem.W.nsIn K mainGlobals "_law_bag" = some (some (.ref f11))) (l11 : K.lookup f11 = some ⟨oc11, od11, .func (PySem.W.fnOf "_law_bag" "_law_bag" (defArgs s_law_bag) (defBody s_law_bag) (defScope s_law_bag) .none kV11 dc11 pm11 an11 cd11 ct11), sl11⟩) (c11 : PySem.W.codeIn K cd11 "_law_bag" = true) (k11 : PySem.W.keepIn K (.ref f11) = true)
    (a12 : PySem.W.nsIn K mainGlobals "_law_draw" = some (some (.ref f12))) (l12 : K.lookup f12 = some ⟨oc12, od12, .func (PySem.W.fnOf "_law_draw" "_law_draw" (defArgs s_law_draw) (defBody s_law_draw) (defScope s_law_draw) .none kV12 dc12 pm12 an12 cd12 ct12), sl12⟩) (c12 : PySem.W.codeIn K cd12 "_law_draw" = true) (k12 : PySem.W.keepIn K (.ref f12) = true)
    (a13 : PySem.W.nsIn K mainGlobals "_law_whole" = some (some (.ref f13))) (l13 : K.lookup f13 = some ⟨oc13, od13, .func (PySem.W.fnOf "_law_whole" "_law_whole" (defArgs s_law_whole) (defBody s_law_whole) (defScope s_law_whole) .none kV13 dc13 pm13 an13 cd13 ct13), sl13⟩) (c13 : PySem.W.codeIn K cd13 "_law_whole" = true) (k13 : PySem.W.keepIn K (.ref f13) = true)
    (a14 : PySem.W.nsIn K mainGlobals "_law_same" = some (some (.ref f14))) (l14 : K.lookup f14 = some ⟨oc14, od14, .func (PySem.W.fnOf "_law_same" "_law_same" (defArgs s_law_same) (defBody s_law_same) (defScope s_law_same) .none kV14 dc14 pm14 an14 cd14 ct14), sl14⟩) (c14 : PySem.W.codeIn K cd14 "_law_same" = true) (k14 : PySem.W.keepIn K (.ref f14) = true)
    (a15 : PySem.W.nsIn K mainGlobals "_law_cost_rows" = some (some (.ref f15))) (l15 : K.lookup f15 = some ⟨oc15, od15, .func (PySem.W.fnOf "_law_cost_rows" "_law_cost_rows" (defArgs s_law_cost_rows) (defBody s_law_cost_rows) (defScope s_law_cost_rows) .none kV15 dc15 pm15 an15 cd15 ct15), sl15⟩) (c15 : PySem.W.codeIn K cd15 "_law_cost_rows" = true) (k15 : PySem.W.keepIn K (.ref f15) = true)
    (a16 : PySem.W.nsIn K mainGlobals "_law_order_price" = some (some (.ref f16))) (l16 : K.lookup f16 = some ⟨oc16, od16, .func (PySem.W.fnOf "_law_order_price" "_law_order_price" (defArgs s_law_order_price) (defBody s_law_order_price) (defScope s_law_order_price) .none kV16 dc16 pm16 an16 cd16 ct16), sl16⟩) (c16 : PySem.W.codeIn K cd16 "_law_order_price" = true) (k16 : PySem.W.keepIn K (.ref f16) = true)
    (a17 : PySem.W.nsIn K mainGlobals "_law_subsets" = some (some (.ref f17))) (l17 : K.lookup f17 = some ⟨oc17, od17, .func (PySem.W.fnOf "_law_subsets" "_law_subsets" (defArgs s_law_subsets) (defBody s_law_subsets) (defScope s_law_subsets) .none kV17 dc17 pm17 an17 cd17 ct17), sl17⟩) (c17 : PySem.W.codeIn K cd17 "_law_subsets" = true) (k17 : PySem.W.keepIn K (.ref f17) = true)
    (a18 : PySem.W.nsIn K mainGlobals "_law_table" = some (some (.ref f18))) (l18 : K.lookup f18 = some ⟨oc18, od18, .func (PySem.W.fnOf "_law_table" "_law_table" (defArgs s_law_table) (defBody s_law_table) (defScope s_law_table) .none kV18 dc18 pm18 an18 cd18 ct18), sl18⟩) (c18 : PySem.W.codeIn K cd18 "_law_table" = true) (k18 : PySem.W.keepIn K (.ref f18) = true)
    (a19 : PySem.W.nsIn K mainGlobals "_law_least_order" = some (some (.ref f19))) (l19 : K.lookup f19 = some ⟨oc19, od19, .func (PySem.W.fnOf "_law_least_order" "_law_least_order" (defArgs s_law_least_order) (defBody s_law_least_order) (defScope s_law_least_order) .none kV19 dc19 pm19 an19 cd19 ct19), sl19⟩) (c19 : PySem.W.codeIn K cd19 "_law_least_order" = true) (k19 : PySem.W.keepIn K (.ref f19) = true)
    (a20 : PySem.W.nsIn K mainGlobals "_law_lifted" = some (some (.ref f20))) (l20 : K.lookup f20 = some ⟨oc20, od20, .func (PySem.W.fnOf "_law_lifted" "_law_lifted" (defArgs s_law_lifted) (defBody s_law_lifted) (defScope s_law_lifted) .none kV20 dc20 pm20 an20 cd20 ct20), sl20⟩) (c20 : PySem.W.codeIn K cd20 "_law_lifted" = true) (k20 : PySem.W.keepIn K (.ref f20) = true)
    (a21 : PySem.W.nsIn K mainGlobals "_law_table_made" = some (some (.ref f21))) (l21 : K.lookup f21 = some ⟨oc21, od21, .func (PySem.W.fnOf "_law_table_made" "_law_table_made" (defArgs s_law_table_made) (defBody s_law_table_made) (defScope s_law_table_made) .none kV21 dc21 pm21 an21 cd21 ct21), sl21⟩) (c21 : PySem.W.codeIn K cd21 "_law_table_made" = true) (k21 : PySem.W.keepIn K (.ref f21) = true)
    (a22 : PySem.W.nsIn K mainGlobals "_law_all_orders" = some (some (.ref f22))) (l22 : K.lookup f22 = some ⟨oc22, od22, .func (PySem.W.fnOf "_law_all_orders" "_law_all_orders" (defArgs s_law_all_orders) (defBody s_law_all_orders) (defScope s_law_all_orders) .none kV22 dc22 pm22 an22 cd22 ct22), sl22⟩) (c22 : PySem.W.codeIn K cd22 "_law_all_orders" = true) (k22 : PySem.W.keepIn K (.ref f22) = true)
    (a23 : PySem.W.nsIn K mainGlobals "_law_first_least" = some (some (.ref f23))) (l23 : K.lookup f23 = some ⟨oc23, od23, .func (PySem.W.fnOf "_law_first_least" "_law_first_least" (defArgs s_law_first_least) (defBody s_law_first_least) (defScope s_law_first_least) .none kV23 dc23 pm23 an23 cd23 ct23), sl23⟩) (c23 : PySem.W.codeIn K cd23 "_law_first_least" = true) (k23 : PySem.W.keepIn K (.ref f23) = true)
    (a24 : PySem.W.nsIn K mainGlobals "_law_due_order" = some (some (.ref f24))) (l24 : K.lookup f24 = some ⟨oc24, od24, .func (PySem.W.fnOf "_law_due_order" "_law_due_order" (defArgs s_law_due_order) (defBody s_law_due_order) (defScope s_law_due_order) .none kV24 dc24 pm24 an24 cd24 ct24), sl24⟩) (c24 : PySem.W.codeIn K cd24 "_law_due_order" = true) (k24 : PySem.W.keepIn K (.ref f24) = true)
    (a25 : PySem.W.nsIn K mainGlobals "law" = some (some (.ref f25))) (l25 : K.lookup f25 = some ⟨oc25, od25, .func (PySem.W.fnOf "law" "law" (defArgs s_law) (defBody s_law) (defScope s_law) .none kV25 dc25 pm25 an25 cd25 ct25), sl25⟩) (c25 : PySem.W.codeIn K cd25 "law" = true) (k25 : PySem.W.keepIn K (.ref f25) = true)
    (z_TypeError : PySem.W.nsIn K mainGlobals "TypeError" = some none)
    (z_abs : PySem.W.nsIn K mainGlobals "abs" = some none)
    (z_bool : PySem.W.nsIn K mainGlobals "bool" = some none)
    (z_dict : PySem.W.nsIn K mainGlobals "dict" = some none)
    (z_enumerate : PySem.W.nsIn K mainGlobals "enumerate" = some none)
    (z_int : PySem.W.nsIn K mainGlobals "int" = some none)
    (z_isinstance : PySem.W.nsIn K mainGlobals "isinstance" = some none)
    (z_len : PySem.W.nsIn K mainGlobals "len" = some none)
    (z_list : PySem.W.nsIn K mainGlobals "list" = some none)
    (z_min : PySem.W.nsIn K mainGlobals "min" = some none)
    (z_range : PySem.W.nsIn K mainGlobals "range" = some none)
    (z_staticmethod : PySem.W.nsIn K mainGlobals "staticmethod" = some none)
    (z_str : PySem.W.nsIn K mainGlobals "str" = some none)
    (z_sum : PySem.W.nsIn K mainGlobals "sum" = some none)
    (z_tuple : PySem.W.nsIn K mainGlobals "tuple" = some none)
    (z_zip : PySem.W.nsIn K mainGlobals "zip" = some none)
    : ∃ fd : FuncData, (∀ (s : Shared) (v : Value), BindsTo s fd ⟨[v], []⟩ [("script", v)]) ∧ ∀ base : Heap, K.In base → base.Ns mainGlobals mg → FnOk l.prog w K mg base CX0 8 fa fd ["script"] (spLaw K) := by
  have e := hfa.symm.trans (PySem.W.mg_of X G a25)
  cases e
  have F_Costs___init__ := fun_mk (st := s_Costs___init__) l_Costs___init__ c_Costs___init__ k_Costs___init__
  have b_Costs___init__ := F_Costs___init__.binds (ps := ["self", "size"]) fun _ _ _ _ _ _ us hl => match us, hl with | [_, _], _ => rfl
  have F_Costs___iter__ := fun_mk (st := s_Costs___iter__) l_Costs___iter__ c_Costs___iter__ k_Costs___iter__
  have b_Costs___iter__ := F_Costs___iter__.binds (ps := ["self"]) fun _ _ _ _ _ _ us hl => match us, hl with | [_], _ => rfl
  have F_Costs___getitem__ := fun_mk (st := s_Costs___getitem__) l_Costs___getitem__ c_Costs___getitem__ k_Costs___getitem__
  have b_Costs___getitem__ := F_Costs___getitem__.binds (ps := ["self", "at"]) fun _ _ _ _ _ _ us hl => match us, hl with | [_, _], _ => rfl
  have F_Costs___setitem__ := fun_mk (st := s_Costs___setitem__) l_Costs___setitem__ c_Costs___setitem__ k_Costs___setitem__
  have b_Costs___setitem__ := F_Costs___setitem__.binds (ps := ["self", "at", "worth"]) fun _ _ _ _ _ _ us hl => match us, hl with | [_, _, _], _ => rfl
  have F_Costs___add__ := fun_mk (st := s_Costs___add__) l_Costs___add__ c_Costs___add__ k_Costs___add__
  have b_Costs___add__ := F_Costs___add__.binds (ps := ["self", "other"]) fun _ _ _ _ _ _ us hl => match us, hl with | [_, _], _ => rfl
  have F_Costs___iadd__ := fun_mk (st := s_Costs___iadd__) l_Costs___iadd__ c_Costs___iadd__ k_Costs___iadd__
  have b_Costs___iadd__ := F_Costs___iadd__.binds (ps := ["self", "other"]) fun _ _ _ _ _ _ us hl => match us, hl with | [_, _], _ => rfl
  have F_Costs_put := fun_mk (st := s_Costs_put) l_Costs_put c_Costs_put k_Costs_put
  have b_Costs_put := F_Costs_put.binds (ps := ["self", "a", "b", "cost"]) fun _ _ _ _ _ _ us hl => match us, hl with | [_, _, _, _], _ => rfl
  have F_Costs_rows := fun_mk (st := s_Costs_rows) l_Costs_rows c_Costs_rows k_Costs_rows
  have b_Costs_rows := F_Costs_rows.binds (ps := ["self"]) fun _ _ _ _ _ _ us hl => match us, hl with | [_], _ => rfl
  have F_Costs_of := fun_mk (st := s_Costs_of) l_Costs_of c_Costs_of k_Costs_of
  have b_Costs_of := F_Costs_of.binds (ps := ["rows"]) fun _ _ _ _ _ _ us hl => match us, hl with | [_], _ => rfl
  have F0 := fun_mk (st := s_least_order) l0 c0 k0
  have b0 := F0.binds (ps := ["costs"]) fun _ _ _ _ _ _ us hl => match us, hl with | [_], _ => rfl
  have F1 := fun_mk (st := s_subset_table) l1 c1 k1
  have b1 := F1.binds (ps := ["costs"]) fun _ _ _ _ _ _ us hl => match us, hl with | [_], _ => rfl
  have F2 := fun_mk (st := s_subsets) l2 c2 k2
  have b2 := F2.binds (ps := ["size"]) fun _ _ _ _ _ _ us hl => match us, hl with | [_], _ => rfl
  have F3 := fun_mk (st := s_without) l3 c3 k3
  have b3 := F3.binds (ps := ["subset", "member"]) fun _ _ _ _ _ _ us hl => match us, hl with | [_, _], _ => rfl
  have F4 := fun_mk (st := s_price_with_last) l4 c4 k4
  have b4 := F4.binds (ps := ["rows", "table", "subset", "last"]) fun _ _ _ _ _ _ us hl => match us, hl with | [_, _, _, _], _ => rfl
  have F5 := fun_mk (st := s_least_first) l5 c5 k5
  have b5 := F5.binds (ps := ["rows", "table", "subset"]) fun _ _ _ _ _ _ us hl => match us, hl with | [_, _, _], _ => rfl
  have F6 := fun_mk (st := s_price_with_first) l6 c6 k6
  have b6 := F6.binds (ps := ["rows", "table", "subset", "first"]) fun _ _ _ _ _ _ us hl => match us, hl with | [_, _, _, _], _ => rfl
  have F7 := fun_mk (st := s_check_pair) l7 c7 k7
  have b7 := F7.binds (ps := ["size", "a", "b"]) fun _ _ _ _ _ _ us hl => match us, hl with | [_, _, _], _ => rfl
  have F8 := fun_mk (st := s_check_sizes) l8 c8 k8
  have b8 := F8.binds (ps := ["first", "second"]) fun _ _ _ _ _ _ us hl => match us, hl with | [_, _], _ => rfl
  have F9 := fun_mk (st := s_copied) l9 c9 k9
  have b9 := F9.binds (ps := ["rows"]) fun _ _ _ _ _ _ us hl => match us, hl with | [_], _ => rfl
  have F10 := fun_mk (st := s_added) l10 c10 k10
  have b10 := F10.binds (ps := ["first", "second"]) fun _ _ _ _ _ _ us hl => match us, hl with | [_, _], _ => rfl
  have F11 := fun_mk (st := s_law_bag) l11 c11 k11
  have b11 := F11.binds (ps := ["script"]) fun _ _ _ _ _ _ us hl => match us, hl with | [_], _ => rfl
  have F12 := fun_mk (st := s_law_draw) l12 c12 k12
  have b12 := F12.binds (ps := ["bag", "many"]) fun _ _ _ _ _ _ us hl => match us, hl with | [_, _], _ => rfl
  have F13 := fun_mk (st := s_law_whole) l13 c13 k13
  have b13 := F13.binds (ps := ["got"]) fun _ _ _ _ _ _ us hl => match us, hl with | [_], _ => rfl
  have F14 := fun_mk (st := s_law_same) l14 c14 k14
  have b14 := F14.binds (ps := ["got", "due"]) fun _ _ _ _ _ _ us hl => match us, hl with | [_, _], _ => rfl
  have F15 := fun_mk (st := s_law_cost_rows) l15 c15 k15
  have b15 := F15.binds (ps := ["bag", "size"]) fun _ _ _ _ _ _ us hl => match us, hl with | [_, _], _ => rfl
  have F16 := fun_mk (st := s_law_order_price) l16 c16 k16
  have b16 := F16.binds (ps := ["rows", "order"]) fun _ _ _ _ _ _ us hl => match us, hl with | [_, _], _ => rfl
  have F17 := fun_mk (st := s_law_subsets) l17 c17 k17
  have b17 := F17.binds (ps := ["size"]) fun _ _ _ _ _ _ us hl => match us, hl with | [_], _ => rfl
  have F18 := fun_mk (st := s_law_table) l18 c18 k18
  have b18 := F18.binds (ps := ["rows"]) fun _ _ _ _ _ _ us hl => match us, hl with | [_], _ => rfl
  have F19 := fun_mk (st := s_law_least_order) l19 c19 k19
  have b19 := F19.binds (ps := ["rows"]) fun _ _ _ _ _ _ us hl => match us, hl with | [_], _ => rfl
  have F20 := fun_mk (st := s_law_lifted) l20 c20 k20
  have b20 := F20.binds (ps := ["bag", "rows"]) fun _ _ _ _ _ _ us hl => match us, hl with | [_, _], _ => rfl
  have F21 := fun_mk (st := s_law_table_made) l21 c21 k21
  have b21 := F21.binds (ps := ["bag", "rows"]) fun _ _ _ _ _ _ us hl => match us, hl with | [_, _], _ => rfl
  have F22 := fun_mk (st := s_law_all_orders) l22 c22 k22
  have b22 := F22.binds (ps := ["size"]) fun _ _ _ _ _ _ us hl => match us, hl with | [_], _ => rfl
  have F23 := fun_mk (st := s_law_first_least) l23 c23 k23
  have b23 := F23.binds (ps := ["rows"]) fun _ _ _ _ _ _ us hl => match us, hl with | [_], _ => rfl
  have F24 := fun_mk (st := s_law_due_order) l24 c24 k24
  have b24 := F24.binds (ps := ["rows"]) fun _ _ _ _ _ _ us hl => match us, hl with | [_], _ => rfl
  have T : Txt K mg := { C_Costs := C_Costs, cl_Costs := ⟨pg_Costs, hd_Costs, po_Costs, sa_Costs⟩, mg_Costs := PySem.W.mg_of X G aC_Costs, na_Costs_size := na_Costs_size, na_Costs__table := na_Costs__table, f_Costs___init__ := f_Costs___init__, fd_Costs___init__ := _, F_Costs___init__ := F_Costs___init__, b_Costs___init__ := b_Costs___init__, mk_Costs := ⟨mk_Costs, a_Costs___init__, i_Costs___init__, kc_Costs⟩, f_Costs___iter__ := f_Costs___iter__, fd_Costs___iter__ := _, F_Costs___iter__ := F_Costs___iter__, b_Costs___iter__ := b_Costs___iter__, f_Costs___getitem__ := f_Costs___getitem__, fd_Costs___getitem__ := _, F_Costs___getitem__ := F_Costs___getitem__, b_Costs___getitem__ := b_Costs___getitem__, ow_Costs___getitem__ := ⟨a_Costs___getitem__, i_Costs___getitem__, fi_Costs___getitem__, no_Costs, sf_Costs⟩, f_Costs___setitem__ := f_Costs___setitem__, fd_Costs___setitem__ := _, F_Costs___setitem__ := F_Costs___setitem__, b_Costs___setitem__ := b_Costs___setitem__, ow_Costs___setitem__ := ⟨a_Costs___setitem__, i_Costs___setitem__, fi_Costs___setitem__, no_Costs, sf_Costs⟩, f_Costs___add__ := f_Costs___add__, fd_Costs___add__ := _, F_Costs___add__ := F_Costs___add__, b_Costs___add__ := b_Costs___add__, ow_Costs___add__ := ⟨a_Costs___add__, i_Costs___add__, fi_Costs___add__, no_Costs, sf_Costs⟩, f_Costs___iadd__ := f_Costs___iadd__, fd_Costs___iadd__ := _, F_Costs___iadd__ := F_Costs___iadd__, b_Costs___iadd__ := b_Costs___iadd__, ow_Costs___iadd__ := ⟨a_Costs___iadd__, i_Costs___iadd__, fi_Costs___iadd__, no_Costs, sf_Costs⟩, f_Costs_put := f_Costs_put, fd_Costs_put := _, F_Costs_put := F_Costs_put, b_Costs_put := b_Costs_put, me_Costs_put := ⟨a_Costs_put, i_Costs_put, k_Costs_put⟩, f_Costs_rows := f_Costs_rows, fd_Costs_rows := _, F_Costs_rows := F_Costs_rows, b_Costs_rows := b_Costs_rows, me_Costs_rows := ⟨a_Costs_rows, i_Costs_rows, k_Costs_rows⟩, f_Costs_of := f_Costs_of, fd_Costs_of := _, F_Costs_of := F_Costs_of, b_Costs_of := b_Costs_of, p_Costs_of := p_Costs_of, st_Costs_of := ⟨rd_Costs, ga_Costs, a_Costs_of, ⟨_, r_Costs_of⟩, k_Costs_of⟩, f_least_order := _, fd_least_order := _, F_least_order := F0, g_least_order := PySem.W.mg_of X G a0, b_least_order := b0, f_subset_table := _, fd_subset_table := _, F_subset_table := F1, g_subset_table := PySem.W.mg_of X G a1, b_subset_table := b1, f_subsets := _, fd_subsets := _, F_subsets := F2, g_subsets := PySem.W.mg_of X G a2, b_subsets := b2, f_without := _, fd_without := _, F_without := F3, g_without := PySem.W.mg_of X G a3, b_without := b3, f_price_with_last := _, fd_price_with_last := _, F_price_with_last := F4, g_price_with_last := PySem.W.mg_of X G a4, b_price_with_last := b4, f_least_first := _, fd_least_first := _, F_least_first := F5, g_least_first := PySem.W.mg_of X G a5, b_least_first := b5, f_price_with_first := _, fd_price_with_first := _, F_price_with_first := F6, g_price_with_first := PySem.W.mg_of X G a6, b_price_with_first := b6, f_check_pair := _, fd_check_pair := _, F_check_pair := F7, g_check_pair := PySem.W.mg_of X G a7, b_check_pair := b7, f_check_sizes := _, fd_check_sizes := _, F_check_sizes := F8, g_check_sizes := PySem.W.mg_of X G a8, b_check_sizes := b8, f_copied := _, fd_copied := _, F_copied := F9, g_copied := PySem.W.mg_of X G a9, b_copied := b9, f_added := _, fd_added := _, F_added := F10, g_added := PySem.W.mg_of X G a10, b_added := b10, f_law_bag := _, fd_law_bag := _, F_law_bag := F11, g_law_bag := PySem.W.mg_of X G a11, b_law_bag := b11, f_law_draw := _, fd_law_draw := _, F_law_draw := F12, g_law_draw := PySem.W.mg_of X G a12, b_law_draw := b12, f_law_whole := _, fd_law_whole := _, F_law_whole := F13, g_law_whole := PySem.W.mg_of X G a13, b_law_whole := b13, f_law_same := _, fd_law_same := _, F_law_same := F14, g_law_same := PySem.W.mg_of X G a14, b_law_same := b14, f_law_cost_rows := _, fd_law_cost_rows := _, F_law_cost_rows := F15, g_law_cost_rows := PySem.W.mg_of X G a15, b_law_cost_rows := b15, f_law_order_price := _, fd_law_order_price := _, F_law_order_price := F16, g_law_order_price := PySem.W.mg_of X G a16, b_law_order_price := b16, f_law_subsets := _, fd_law_subsets := _, F_law_subsets := F17, g_law_subsets := PySem.W.mg_of X G a17, b_law_subsets := b17, f_law_table := _, fd_law_table := _, F_law_table := F18, g_law_table := PySem.W.mg_of X G a18, b_law_table := b18, f_law_least_order := _, fd_law_least_order := _, F_law_least_order := F19, g_law_least_order := PySem.W.mg_of X G a19, b_law_least_order := b19, f_law_lifted := _, fd_law_lifted := _, F_law_lifted := F20, g_law_lifted := PySem.W.mg_of X G a20, b_law_lifted := b20, f_law_table_made := _, fd_law_table_made := _, F_law_table_made := F21, g_law_table_made := PySem.W.mg_of X G a21, b_law_table_made := b21, f_law_all_orders := _, fd_law_all_orders := _, F_law_all_orders := F22, g_law_all_orders := PySem.W.mg_of X G a22, b_law_all_orders := b22, f_law_first_least := _, fd_law_first_least := _, F_law_first_least := F23, g_law_first_least := PySem.W.mg_of X G a23, b_law_first_least := b23, f_law_due_order := _, fd_law_due_order := _, F_law_due_order := F24, g_law_due_order := PySem.W.mg_of X G a24, b_law_due_order := b24, n_TypeError := PySem.W.mg_none_of X G z_TypeError, n_abs := PySem.W.mg_none_of X G z_abs, n_bool := PySem.W.mg_none_of X G z_bool, n_dict := PySem.W.mg_none_of X G z_dict, n_enumerate := PySem.W.mg_none_of X G z_enumerate, n_int := PySem.W.mg_none_of X G z_int, n_isinstance := PySem.W.mg_none_of X G z_isinstance, n_len := PySem.W.mg_none_of X G z_len, n_list := PySem.W.mg_none_of X G z_list, n_min := PySem.W.mg_none_of X G z_min, n_range := PySem.W.mg_none_of X G z_range, n_staticmethod := PySem.W.mg_none_of X G z_staticmethod, n_str := PySem.W.mg_none_of X G z_str, n_sum := PySem.W.mg_none_of X G z_sum, n_tuple := PySem.W.mg_none_of X G z_tuple, n_zip := PySem.W.mg_none_of X G z_zip }
  exact ⟨PySem.W.fnOf "law" "law" (defArgs s_law) (defBody s_law) (defScope s_law) .none kV25 dc25 pm25 an25 cd25 ct25, fun s v => .of_eq rfl, fun base _ _ => ok_law T (fun_mk (st := s_law) l25 c25 k25)⟩
end K29
open PySem PySem.W PyProof.Rows
set_option maxHeartbeats 0 in
set_option maxRecDepth 100000 in
theorem PySem.Challenge.cw_drawnlayers_k29_whole_least_orders_holds : PySem.Challenge.rw_drawnlayers_k29_whole_least_orders.Holds := by
  w_on; o_law; k_head; (case hw => w_witness2)
  k_fill
  refine L2.walk_of (l := PySem.Challenge.rw_drawnlayers_k29_whole_least_orders) (n := 63) (k := 8) (x := "script") (CX := fun _ => L2.CX0) (sp := fun w => K29.spLaw _) rfl (by decide) rfl ⟨rfl, by decide, by decide⟩ (fun w h Y => PySem.W.kIn_of Y) ?F (fun _ _ a ns hl _ hS => ⟨a, ns, rfl, hS, hl, fun _ => rfl⟩) (fun _ _ _ _ _ z => z)
  case F =>
    intro w mg fa h KX G hmg
    refine' K29.all_mk KX G hmg ?aC_Costs ?pg_Costs ?hd_Costs ?po_Costs ?sa_Costs ?mk_Costs ?kc_Costs ?na_Costs_size ?na_Costs__table ?no_Costs ?sf_Costs ?rd_Costs ?ga_Costs ?a_Costs___init__ ?i_Costs___init__ ?l_Costs___init__ ?c_Costs___init__ ?k_Costs___init__ ?a_Costs___iter__ ?i_Costs___iter__ ?l_Costs___iter__ ?c_Costs___iter__ ?k_Costs___iter__ ?a_Costs___getitem__ ?i_Costs___getitem__ ?fi_Costs___getitem__ ?l_Costs___getitem__ ?c_Costs___getitem__ ?k_Costs___getitem__ ?a_Costs___setitem__ ?i_Costs___setitem__ ?fi_Costs___setitem__ ?l_Costs___setitem__ ?c_Costs___setitem__ ?k_Costs___setitem__ ?a_Costs___add__ ?i_Costs___add__ ?fi_Costs___add__ ?l_Costs___add__ ?c_Costs___add__ ?k_Costs___add__ ?a_Costs___iadd__ ?i_Costs___iadd__ ?fi_Costs___iadd__ ?l_Costs___iadd__ ?c_Costs___iadd__ ?k_Costs___iadd__ ?a_Costs_put ?i_Costs_put ?l_Costs_put ?c_Costs_put ?k_Costs_put ?a_Costs_rows ?i_Costs_rows ?l_Costs_rows ?c_Costs_rows ?k_Costs_rows ?a_Costs_of ?r_Costs_of ?l_Costs_of ?c_Costs_of ?k_Costs_of ?a0 ?l0 ?c0 ?k0 ?a1 ?l1 ?c1 ?k1 ?a2 ?l2 ?c2 ?k2 ?a3 ?l3 ?c3 ?k3 ?a4 ?l4 ?c4 ?k4 ?a5 ?l5 ?c5 ?k5 ?a6 ?l6 ?c6 ?k6 ?a7 ?l7 ?c7 ?k7 ?a8 ?l8 ?c8 ?k8 ?a9 ?l9 ?c9 ?k9 ?a10 ?l10 ?c10 ?k10 ?a11 ?l11 ?c11 ?k11 ?a12 ?l12 ?c12 ?k12 ?a13 ?l13 ?c13 ?k13 ?a14 ?l14 ?c14 ?k14 ?a15 ?l15 ?c15 ?k15 ?a16 ?l16 ?c16 ?k16 ?a17 ?l17 ?c17 ?k17 ?a18 ?l18 ?c18 ?k18 ?a19 ?l19 ?c19 ?k19 ?a20 ?l20 ?c20 ?k20 ?a21 ?l21 ?c21 ?k21 ?a22 ?l22 ?c22 ?k22 ?a23 ?l23 ?c23 ?k23 ?a24 ?l24 ?c24 ?k24 ?a25 ?l25 ?c25 ?k25 ?z_TypeError ?z_abs ?z_bool ?z_dict ?z_enumerate ?z_int ?z_isinstance ?z_len ?z_list ?z_min ?z_range ?z_staticmethod ?z_str ?z_sum ?z_tuple ?z_zip
    (case aC_Costs => k_is)
    (case pg_Costs => k_is)
    (case hd_Costs => k_is)
    (case po_Costs => k_is)
    (case sa_Costs => k_is)
    (case mk_Costs => k_is)
    (case kc_Costs => k_is)
    (case na_Costs_size => k_is)
    (case na_Costs__table => k_is)
    (case no_Costs => k_is)
    (case sf_Costs => k_is)
    (case rd_Costs => k_is)
    (case ga_Costs => k_is)
    (case a_Costs___init__ => k_is)
    (case i_Costs___init__ => k_is)
    (case l_Costs___init__ => k_is)
    (case c_Costs___init__ => k_is)
    (case k_Costs___init__ => k_is)
    (case a_Costs___iter__ => k_is)
    (case i_Costs___iter__ => k_is)
    (case l_Costs___iter__ => k_is)
    (case c_Costs___iter__ => k_is)
    (case k_Costs___iter__ => k_is)
    (case a_Costs___getitem__ => k_is)
    (case i_Costs___getitem__ => k_is)
    (case fi_Costs___getitem__ => k_is)
    (case l_Costs___getitem__ => k_is)
    (case c_Costs___getitem__ => k_is)
    (case k_Costs___getitem__ => k_is)
    (case a_Costs___setitem__ => k_is)
    (case i_Costs___setitem__ => k_is)
    (case fi_Costs___setitem__ => k_is)
    (case l_Costs___setitem__ => k_is)
    (case c_Costs___setitem__ => k_is)
    (case k_Costs___setitem__ => k_is)
    (case a_Costs___add__ => k_is)
    (case i_Costs___add__ => k_is)
    (case fi_Costs___add__ => k_is)
    (case l_Costs___add__ => k_is)
    (case c_Costs___add__ => k_is)
    (case k_Costs___add__ => k_is)
    (case a_Costs___iadd__ => k_is)
    (case i_Costs___iadd__ => k_is)
    (case fi_Costs___iadd__ => k_is)
    (case l_Costs___iadd__ => k_is)
    (case c_Costs___iadd__ => k_is)
    (case k_Costs___iadd__ => k_is)
    (case a_Costs_put => k_is)
    (case i_Costs_put => k_is)
    (case l_Costs_put => k_is)
    (case c_Costs_put => k_is)
    (case k_Costs_put => k_is)
    (case a_Costs_rows => k_is)
    (case i_Costs_rows => k_is)
    (case l_Costs_rows => k_is)
    (case c_Costs_rows => k_is)
    (case k_Costs_rows => k_is)
    (case a_Costs_of => k_is)
    (case r_Costs_of => k_is)
    (case l_Costs_of => k_is)
    (case c_Costs_of => k_is)
    (case k_Costs_of => k_is)
    (case a0 => k_is)
    (case l0 => k_is)
    (case c0 => k_is)
    (case k0 => k_is)
    (case a1 => k_is)
    (case l1 => k_is)
    (case c1 => k_is)
    (case k1 => k_is)
    (case a2 => k_is)
    (case l2 => k_is)
    (case c2 => k_is)
    (case k2 => k_is)
    (case a3 => k_is)
    (case l3 => k_is)
    (case c3 => k_is)
    (case k3 => k_is)
    (case a4 => k_is)
    (case l4 => k_is)
    (case c4 => k_is)
    (case k4 => k_is)
    (case a5 => k_is)
    (case l5 => k_is)
    (case c5 => k_is)
    (case k5 => k_is)
    (case a6 => k_is)
    (case l6 => k_is)
    (case c6 => k_is)
    (case k6 => k_is)
    (case a7 => k_is)
    (case l7 => k_is)
    (case c7 => k_is)
    (case k7 => k_is)
    (case a8 => k_is)
    (case l8 => k_is)
    (case c8 => k_is)
    (case k8 => k_is)
    (case a9 => k_is)
    (case l9 => k_is)
    (case c9 => k_is)
    (case k9 => k_is)
    (case a10 => k_is)
    (case l10 => k_is)
    (case c10 => k_is)
    (case k10 => k_is)
    (case a11 => k_is)
    (case l11 => k_is)
    (case c11 => k_is)
    (case k11 => k_is)
    (case a12 => k_is)
    (case l12 => k_is)
    (case c12 => k_is)
    (case k12 => k_is)
    (case a13 => k_is)
    (case l13 => k_is)
    (case c13 => k_is)
    (case k13 => k_is)
    (case a14 => k_is)
    (case l14 => k_is)
    (case c14 => k_is)
    (case k14 => k_is)
    (case a15 => k_is)
    (case l15 => k_is)
    (case c15 => k_is)
    (case k15 => k_is)
    (case a16 => k_is)
    (case l16 => k_is)
    (case c16 => k_is)
    (case k16 => k_is)
    (case a17 => k_is)
    (case l17 => k_is)
    (case c17 => k_is)
    (case k17 => k_is)
    (case a18 => k_is)
    (case l18 => k_is)
    (case c18 => k_is)
    (case k18 => k_is)
    (case a19 => k_is)
    (case l19 => k_is)
    (case c19 => k_is)
    (case k19 => k_is)
    (case a20 => k_is)
    (case l20 => k_is)
    (case c20 => k_is)
    (case k20 => k_is)
    (case a21 => k_is)
    (case l21 => k_is)
    (case c21 => k_is)
    (case k21 => k_is)
    (case a22 => k_is)
    (case l22 => k_is)
    (case c22 => k_is)
    (case k22 => k_is)
    (case a23 => k_is)
    (case l23 => k_is)
    (case c23 => k_is)
    (case k23 => k_is)
    (case a24 => k_is)
    (case l24 => k_is)
    (case c24 => k_is)
    (case k24 => k_is)
    (case a25 => k_is)
    (case l25 => k_is)
    (case c25 => k_is)
    (case k25 => k_is)
    (case z_TypeError => k_is)
    (case z_abs => k_is)
    (case z_bool => k_is)
    (case z_dict => k_is)
    (case z_enumerate => k_is)
    (case z_int => k_is)
    (case z_isinstance => k_is)
    (case z_len => k_is)
    (case z_list => k_is)
    (case z_min => k_is)
    (case z_range => k_is)
    (case z_staticmethod => k_is)
    (case z_str => k_is)
    (case z_sum => k_is)
    (case z_tuple => k_is)
    (case z_zip => k_is)
