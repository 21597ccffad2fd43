import PyProof.Rows.All
import Wide.All
import OpenK.AllK
import Wide.FinOn
import HandS.ForMost
import HandS.Wide
import HandS.IsInst
import HandS.Codes
import HandS.SortInts
import HandS.Defaults
import HandS.Style
import PyProof.EnumMake
import HandS.Zip
import HandS.Conv
import HandS.TupAny
import HandS.Walk
import OpenK.KMeth
import OpenK.KDescr
import OpenK.KCls
import KE.KOpsOwn
import HandS.OwnEq
import HandS.ClsMeth
import HandS.Star
import PyProof.DictTable
import PyProof.DictRoadsH
import PyProof.CallStr
import PyProof.StrOps2
import HandS.RaiseMore
import HandS.DictComp
import HandS.Deep
import HandS.SortRule
import KE.DataMinMax
import HandS.SortKw
import HandS.SetFor
import KE.DataEq
import KE.SortData
import HandS.More
import HandS.NoneIn
import KE.DataFind
import PySem.Challenge.RW_drawnlayers_k63_median_orders
set_option Elab.async false
set_option linter.all false
set_option maxRecDepth 100000
set_option maxHeartbeats 4000000
namespace D0
open PySem PySem.Spec PyProof.Rows L2
def rAddD (K : PySem.W.Frag) : R2 := fun x y H Q => rI0 (fun i j => .int (i + j)) x y H Q ∨ (∃ i j, x = .str i ∧ y = .str j ∧ i.length + j.length ≤ sizeLine ∧ Q (.str (i ++ j)) H) ∨ rCat x y H Q ∨ rCatT K x y H Q
def rMulD : R2 := fun x y H Q => rI CMul (fun i j => .int (i * j)) x y H Q ∨ rRep x y H Q
def rLtD : R2 := rI0 fun i j => .bl (decide (i < j))
def rLeD : R2 := rI0 fun i j => .bl (decide (i ≤ j))
def rGtD : R2 := rI0 fun i j => .bl (decide (j < i))
def rGeD : R2 := rI0 fun i j => .bl (decide (j ≤ i))
def rSubD : R2 := rI0 fun i j => .int (i - j)
def rModD : R2 := rI (fun _ j => j ≠ 0) fun i j => .int (i.fmod j)
def rDivD : R2 := rI CDivW fun i j => .int (i / j)
def rPowD : R2 := rI CPow fun i j => .int (i ^ j.toNat)
def rStrIn (neg : Bool) : R2 := fun x y H Q => ∃ (c : Nat) (z : Str), x = .str ⟨#[c]⟩ ∧ y = .str z ∧ Q (.bl (if neg then !decide (c ∈ z.cps.toList) else decide (c ∈ z.cps.toList))) H
def rInD (K : PySem.W.Frag) (neg : Bool) : R2 := fun x y H Q => rIn K neg x y H Q ∨ rStrIn neg x y H Q
def rIxD (K : PySem.W.Frag) : R2 := fun x y H Q => rIxL K x y H Q ∨ rIxT K x y H Q ∨ rIxS x y H Q
def rIntD : List V → Hp → VK → Prop := fun xs H Q => (∃ i, xs = [.int i] ∧ Q (.int i) H) ∨ ∃ k, xs = [.bl k] ∧ Q (.int (if k then 1 else 0)) H
def rLenD (K : PySem.W.Frag) : List V → Hp → VK → Prop := fun xs H Q => ∃ x n, xs = [x] ∧ LenV K x H n ∧ Q (.int n) H
def rAbsD : List V → Hp → VK → Prop := fun xs H Q => ∃ i, xs = [.int i] ∧ Q (.int (if i < 0 then -i else i)) H
def rMax2D : List V → Hp → VK → Prop := fun xs H Q => ∃ i j, xs = [.int i, .int j] ∧ Q (.int (if j > i then j else i)) H
def rMin2D : List V → Hp → VK → Prop := fun xs H Q => ∃ i j, xs = [.int i, .int j] ∧ Q (.int (if j < i then j else i)) H
def rOrdD : List V → Hp → VK → Prop := fun xs H Q => ∃ x, xs = [.str x] ∧ x.length = 1 ∧ Q (.int (x.cps.getD 0 0 : Nat)) H
section
variable {X : Cx} (K : PySem.W.Frag)
theorem dAdd (hK : X.K = K := by rfl) : OpR X (binaryOp .Add) (rAddD K) := by subst hK; exact op_add.or (op_add_str.or (op_cat.or op_catT))
theorem dSub : OpR X (binaryOp .Sub) rSubD := op_sub
theorem dMul : OpR X (binaryOp .Mult) rMulD := op_mul.or op_rep
theorem dMod : OpR X (binaryOp .Mod) rModD := op_modN
theorem dDiv : OpR X (binaryOp .FloorDiv) rDivD := op_fdivW
theorem dPow : OpR X (binaryOp .Pow) rPowD := op_pow
theorem dLt : OpR X (compareOp .Lt) rLtD := op_lt
theorem dLe : OpR X (compareOp .LtE) rLeD := op_le
theorem dGt : OpR X (compareOp .Gt) rGtD := op_gt
theorem dGe : OpR X (compareOp .GtE) rGeD := op_ge
theorem dEq : OpR X (compareOp .Eq) rEq := op_eq
theorem dNe : OpR X (compareOp .NotEq) rNe := op_ne
theorem dIn (hK : X.K = K := by rfl) : OpR X (compareOp .In) (rInD K false) := by subst hK; exact op_in_seq.or op_in_sign
theorem dNin (hK : X.K = K := by rfl) : OpR X (compareOp .NotIn) (rInD K true) := by subst hK; exact op_notIn_seq.or op_notIn_sign
theorem dIx (hK : X.K = K := by rfl) : IxR X (rIxD K) := by subst hK; exact ix_list.or (ix_tup.or ix_str)
theorem dInt : CallR X (.type "int") rIntD := call_int1
theorem dLen (hK : X.K = K := by rfl) : CallR X (.builtin "len") (rLenD K) := by subst hK; exact call_len
theorem dAbs : CallR X (.builtin "abs") rAbsD := call_abs
theorem dMax2 (hc : X.calm = true) : CallR X (.builtin "max") rMax2D := call_max2 hc
theorem dMin2 (hc : X.calm = true) : CallR X (.builtin "min") rMin2D := call_min2 hc
theorem dOrd : CallR X (.builtin "ord") rOrdD := call_ord
theorem dSum (hc : X.calm = true) (hK : X.K = K := by rfl) : CallR X (.builtin "sum") (rSum K) := by subst hK; exact cr_sum hc
theorem dAll (hc : X.calm = true) (hK : X.K = K := by rfl) : CallR X (.builtin "all") (rAll K) := by subst hK; exact cr_all hc
theorem dAny (hc : X.calm = true) (hK : X.K = K := by rfl) : CallR X (.builtin "any") (rAny K) := by subst hK; exact cr_any hc
theorem dMax1 (hc : X.calm = true) (hK : X.K = K := by rfl) : CallR X (.builtin "max") (rMax K) := by subst hK; exact cr_max hc
theorem dMin1 (hc : X.calm = true) (hK : X.K = K := by rfl) : CallR X (.builtin "min") (rMin K) := by subst hK; exact cr_min hc
theorem dIsi (hK : X.K = K := by rfl) : CallR X (.builtin "isinstance") (rIsi K) := by subst hK; exact call_isi
theorem dpi_list {tg l : Expr} {tl : TE} (hl : PE X l tl) (hK : X.K = K := by rfl) : PI X tg l (iList K tl) := by subst hK; exact pi_list hl
theorem dpi_tup {tg l : Expr} {tl : TE} (hl : PE X l tl) (hK : X.K = K := by rfl) : PI X tg l (iTup K tl) := by subst hK; exact pi_tup hl
theorem dpg_tup {es : List Expr} {k : Nat} {t : TGs} {n : Nat} {pos : Pos} (hc : X.calm = true) (h : PGs X es t) (hK : X.K = K := by rfl)
    (hn : (assignEach es X.env).length = n := by rfl) (hst : (assignEach es X.env).findIdx? (·.1) = none := by rfl) : PG X (.Tuple es k pos) (gTup K n t) := by subst hK; exact pg_tup hc h hn hst
def rSlD : V → Option Int → Option Int → Hp → VK → Prop := fun x lo hi H Q => rSlL K x lo hi H Q ∨ rSlS x lo hi H Q
theorem SlRor {r r' : V → Option Int → Option Int → Hp → VK → Prop} (h : SlR X r) (h' : SlR X r') : SlR X (fun x lo hi H Q => r x lo hi H Q ∨ r' x lo hi H Q) := by
  intro pins s σ H x v vl vu lo hi sl Q I rx hs pl pu q
  rcases q with q | q
  · exact h pins s σ H x v vl vu lo hi sl Q I rx hs pl pu q
  · exact h' pins s σ H x v vl vu lo hi sl Q I rx hs pl pu q
theorem dSl (hK : X.K = K := by rfl) : SlR X (rSlD K) := by subst hK; exact SlRor sl_list sl_str
end
section
variable {K : PySem.W.Frag} {σ : L2.St} {H : Hp} {Q : VK} {D : Ends} {ta tb tc te : TE} {t u : TT} {tr : TA} {v x y : V} {g : TG}
theorem rd_var {i : Nat} (h : σ[i]? = some (some v)) (q : Q v H) : tVar i σ H Q := ⟨v, h, q⟩
theorem rd_c (q : Q v H) : tC v σ H Q := q
theorem rd_op {r : R2} (q : ta σ H fun x H1 => tb σ H1 fun y H2 => r x y H2 Q) : tOp r ta tb σ H Q := q
theorem rd_un {r : V → Hp → VK → Prop} (q : ta σ H fun x H1 => r x H1 Q) : tUn r ta σ H Q := q
theorem rd_cb {r : List V → Hp → VK → Prop} (q : tr σ H fun vs H1 => r vs H1 Q) : tCB r tr σ H Q := q
theorem rd_cons {Q : List V → Hp → Prop} (q : ta σ H fun x H1 => tr σ H1 fun xs H2 => Q (x :: xs) H2) : tCons ta tr σ H Q := q
theorem rd_nil {Q : List V → Hp → Prop} (q : Q [] H) : tNil σ H Q := q
theorem rd_test {Q : Bool → Hp → Prop} (q : te σ H fun x H' => ∃ k, x = .bl k ∧ Q k H') : tTest te σ H Q := q
theorem rd_B {Q : Bool → Hp → Prop} (q : te σ H fun x H' => ∃ k, x = .bl k ∧ Q k H') : tB te σ H Q := q
theorem rd_bl {c : Bool} {P : Bool → Prop} (q : P c) : ∃ k, V.bl c = V.bl k ∧ P k := ⟨c, rfl, q⟩
theorem rd_and {Q : Bool → Hp → Prop} (q : t σ H fun c H1 => if c = true then u σ H1 Q else Q false H1) : tAnd t u σ H Q := q
theorem rd_or {Q : Bool → Hp → Prop} (q : t σ H fun c H1 => if c = true then Q true H1 else u σ H1 Q) : tOr t u σ H Q := q
theorem rd_not {Q : Bool → Hp → Prop} (q : t σ H fun c H1 => Q (!c) H1) : tNot t σ H Q := q
theorem rd_andV (q : ta σ H fun x H1 => ∃ c, x = .bl c ∧ if c = true then tb σ H1 Q else Q (.bl false) H1) : tAndV ta tb σ H Q := q
theorem rd_orV (q : ta σ H fun x H1 => ∃ c, x = .bl c ∧ if c = true then Q (.bl true) H1 else tb σ H1 Q) : tOrV ta tb σ H Q := q
theorem rd_notV (q : ta σ H fun x H1 => ∃ c, x = .bl c ∧ Q (.bl (!c)) H1) : tNotV ta σ H Q := q
theorem rd_ifE (q : t σ H fun c H1 => if c = true then ta σ H1 Q else tb σ H1 Q) : tIf t ta tb σ H Q := q
theorem rd_chain {r r' : R2} (q : ta σ H fun x H1 => tb σ H1 fun y H2 => r x y H2 fun z H3 => ∃ k, z = .bl k ∧ if k = true then (tc σ H3 fun a H4 => r' y a H4 Q) else Q (.bl false) H3) : tChain r r' ta tb tc σ H Q := q
theorem rd_seq {s1 s2 : TS} (q : s1 { D with nx := s2 D } σ H) : tSeq s1 s2 D σ H := q
theorem rd_next (q : D.nx σ H) : tNext D σ H := q
theorem rd_if {s1 s2 : TS} (q : t σ H fun b H1 => if b = true then s1 D σ H1 else s2 D σ H1) : tIfS t s1 s2 D σ H := q
theorem rd_asg (q : te σ H fun x H1 => g x σ H1 D.nx) : tAsg te g D σ H := q
theorem rd_gname {i : Nat} {Q : L2.St → Hp → Prop} (q : Q (σ.set i (some v)) H) : gName i v σ H Q := q
theorem rd_gsub {ti to : TE} {ts : TSet} {Q : L2.St → Hp → Prop} (q : to σ H fun o H1 => ti σ H1 fun i H2 => ts o i v H2 fun H3 => Q σ H3) : gSub to ti ts v σ H Q := q
theorem rd_drop (q : te σ H fun _ H1 => D.nx σ H1) : tDrop te D σ H := q
theorem rd_ret (q : te σ H D.rt) : tRet te D σ H := q
theorem rd_retN (q : D.rt .non H) : tRetN D σ H := q
theorem rd_brk (q : D.bk σ H) : tBreak D σ H := q
theorem rd_cnt (q : D.ct σ H) : tCont D σ H := q
theorem rd_tup {tr : TA} (q : tr σ H fun xs H1 => xs.length ≤ sizeLine ∧ ∀ p, H1 p = none → Q (.ref p) (upd H1 p (.tup xs))) : tTup tr σ H Q := q
theorem rd_lst {tr : TA} (q : tr σ H fun xs H1 => xs.length ≤ sizeLine ∧ ∀ p, H1 p = none → Q (.ref p) (upd H1 p (.lst xs))) : tLst tr σ H Q := q
theorem rd_BM {T : String} {r : V → List V → Hp → VK → Prop} (q : te σ H fun x H1 => tyV K T x H1 ∧ tr σ H1 fun vs H2 => r x vs H2 Q) : tBM K T r te tr σ H Q := q
theorem rd_M1 {r : V → List V → Hp → VK → Prop} (q : ta σ H fun x H1 => (∃ a, x = .str a) ∧ tb σ H1 fun y H2 => r x [y] H2 Q) : tM1 r ta tb σ H Q := q
theorem rd_M0 {r : V → List V → Hp → VK → Prop} (q : ta σ H fun x H1 => (∃ a, x = .str a) ∧ r x [] H1 Q) : tM0 r ta σ H Q := q
theorem rd_isS {a : Str} {P : Prop} (q : P) : (∃ b, V.str a = V.str b) ∧ P := ⟨⟨a, rfl⟩, q⟩
theorem rd_call {sp : Sp} {dvs : List V} {E : XK} (q : tr σ H fun vs H1 => sp (vs ++ dvs) H1 Q E) : tCall sp dvs E tr σ H Q := q
theorem rd_andB {b b' : Bool} (hb : ∀ Qe : VK, Qe (.bl b') H → tb σ H Qe) (q : Q (.bl (b && b')) H) : ∃ c, V.bl b = .bl c ∧ if c = true then tb σ H Q else Q (.bl false) H := by
  refine ⟨b, rfl, ?_⟩
  cases b
  · exact iteF q
  · exact iteT (hb _ q)
theorem rd_orB {b b' : Bool} (hb : ∀ Qe : VK, Qe (.bl b') H → tb σ H Qe) (q : Q (.bl (b || b')) H) : ∃ c, V.bl b = .bl c ∧ if c = true then Q (.bl true) H else tb σ H Q := by
  refine ⟨b, rfl, ?_⟩
  cases b
  · exact iteF (hb _ q)
  · exact iteT q
theorem rd_tyL {a : Addr} {xs : List V} {P : Prop} (h : SqL K H a xs) (q : P) : tyV K "list" (.ref a) H ∧ P := ⟨.inl ⟨rfl, _, h⟩, q⟩
theorem rd_tyS {z : Str} {P : Prop} (q : P) : tyV K "str" (.str z) H ∧ P := ⟨rfl, q⟩
theorem rd_gtup {n : Nat} {ts : TGs} {a : Addr} {xs : List V} {Q : L2.St → Hp → Prop} (h : SqT K H a xs) (hn : xs.length = n) (q : ts xs σ H Q) : gTup K n ts (.ref a) σ H Q := ⟨a, xs, rfl, h, hn, q⟩
theorem rd_gcons {ts : TGs} {vs : List V} {Q : L2.St → Hp → Prop} (q : g v σ H fun σ' H' => ts vs σ' H' Q) : gCons g ts (v :: vs) σ H Q := ⟨v, vs, rfl, q⟩
theorem rd_gnil {Q : L2.St → Hp → Prop} (q : Q σ H) : gNil [] σ H Q := ⟨rfl, q⟩
theorem rd_sl {r : V → Option Int → Option Int → Hp → VK → Prop} {tl th : TO} (q : te σ H fun x H1 => tl σ H1 fun l H2 => th σ H2 fun u H3 => r x l u H3 Q) : tSl r te tl th σ H Q := q
theorem rd_nopart {Q : Option Int → Hp → Prop} (q : Q none H) : tNoPart σ H Q := q
theorem rd_part {Q : Option Int → Hp → Prop} (q : te σ H fun x H1 => ∃ i, x = .int i ∧ Q (some i) H1) : tPart te σ H Q := q
theorem rd_ii {i : Int} {P : Int → Prop} (q : P i) : ∃ k, V.int i = V.int k ∧ P k := ⟨i, rfl, q⟩
-- values
theorem rv_addI {i j : Int} (q : Q (.int (i + j)) H) : rAddD K (.int i) (.int j) H Q := .inl ⟨i, j, rfl, rfl, q⟩
theorem rv_addS {i j : Str} (h : i.length + j.length ≤ sizeLine) (q : Q (.str (i ++ j)) H) : rAddD K (.str i) (.str j) H Q := .inr (.inl ⟨i, j, rfl, rfl, h, q⟩)
theorem rv_addL {a b : Addr} {xs ys : List V} (ha : H a = some (.lst xs)) (hb : H b = some (.lst ys)) (h : xs.length + ys.length ≤ sizeLine) (q : ∀ p, H p = none → Q (.ref p) (upd H p (.lst (xs ++ ys)))) : rAddD K (.ref a) (.ref b) H Q := .inr (.inr (.inl ⟨a, b, xs, ys, rfl, rfl, ha, hb, h, q⟩))
theorem rv_sub {i j : Int} (q : Q (.int (i - j)) H) : rSubD (.int i) (.int j) H Q := ⟨i, j, rfl, rfl, q⟩
theorem rv_mulI {i j : Int} (c : CMul i j) (q : Q (.int (i * j)) H) : rMulD (.int i) (.int j) H Q := .inl ⟨i, j, rfl, rfl, c, q⟩
theorem rv_rep {l : Addr} {k : Int} {xs : List V} (h : H l = some (.lst xs)) (c : -(2 ^ 63) ≤ k ∧ k < 2 ^ 63 ∧ xs.length * k.toNat ≤ sizeLine) (q : ∀ p, H p = none → Q (.ref p) (upd H p (.lst (List.replicate k.toNat xs).flatten))) : rMulD (.ref l) (.int k) H Q := .inr ⟨l, k, xs, rfl, rfl, h, c.1, c.2.1, c.2.2, q⟩
theorem rv_mod {i j : Int} (c : j ≠ 0) (q : Q (.int (i.fmod j)) H) : rModD (.int i) (.int j) H Q := ⟨i, j, rfl, rfl, c, q⟩
theorem rv_div {i j : Int} (c : CDivW i j) (q : Q (.int (i / j)) H) : rDivD (.int i) (.int j) H Q := ⟨i, j, rfl, rfl, c, q⟩
theorem rv_pow {i j : Int} (c : CPow i j) (q : Q (.int (i ^ j.toNat)) H) : rPowD (.int i) (.int j) H Q := ⟨i, j, rfl, rfl, c, q⟩
theorem rv_lt {i j : Int} (q : Q (.bl (decide (i < j))) H) : rLtD (.int i) (.int j) H Q := ⟨i, j, rfl, rfl, q⟩
theorem rv_le {i j : Int} (q : Q (.bl (decide (i ≤ j))) H) : rLeD (.int i) (.int j) H Q := ⟨i, j, rfl, rfl, q⟩
theorem rv_gt {i j : Int} (q : Q (.bl (decide (j < i))) H) : rGtD (.int i) (.int j) H Q := ⟨i, j, rfl, rfl, q⟩
theorem rv_ge {i j : Int} (q : Q (.bl (decide (j ≤ i))) H) : rGeD (.int i) (.int j) H Q := ⟨i, j, rfl, rfl, q⟩
theorem dec_int (i j : Int) : decide (V.int i = V.int j) = decide (i = j) := decide_eq_decide.mpr ⟨V.int.inj, fun e => by rw [e]⟩
theorem dec_str (i j : Str) : decide (V.str i = V.str j) = decide (i = j) := decide_eq_decide.mpr ⟨V.str.inj, fun e => by rw [e]⟩
theorem dec_bl (i j : Bool) : decide (V.bl i = V.bl j) = decide (i = j) := decide_eq_decide.mpr ⟨V.bl.inj, fun e => by rw [e]⟩
theorem rv_eqI {i j : Int} (q : Q (.bl (decide (i = j))) H) : rEq (.int i) (.int j) H Q := ⟨rfl, by rw [dec_int]; exact q⟩
theorem rv_eqS {i j : Str} (q : Q (.bl (decide (i = j))) H) : rEq (.str i) (.str j) H Q := ⟨rfl, by rw [dec_str]; exact q⟩
theorem rv_eqB {i j : Bool} (q : Q (.bl (decide (i = j))) H) : rEq (.bl i) (.bl j) H Q := ⟨rfl, by rw [dec_bl]; exact q⟩
theorem rv_neI {i j : Int} (q : Q (.bl (!decide (i = j))) H) : rNe (.int i) (.int j) H Q := ⟨rfl, by rw [dec_int]; exact q⟩
theorem rv_neS {i j : Str} (q : Q (.bl (!decide (i = j))) H) : rNe (.str i) (.str j) H Q := ⟨rfl, by rw [dec_str]; exact q⟩
theorem rv_neB {i j : Bool} (q : Q (.bl (!decide (i = j))) H) : rNe (.bl i) (.bl j) H Q := ⟨rfl, by rw [dec_bl]; exact q⟩
theorem rv_ixL {p : Addr} {xs : List V} {i : Int} (h : SqL K H p xs) (c : atI xs i = some v) (q : Q v H) : rIxD K (.ref p) (.int i) H Q := .inl ⟨p, xs, i, v, rfl, rfl, h, c, q⟩
theorem rv_ixT {p : Addr} {xs : List V} {i : Int} (h : SqT K H p xs) (c : atI xs i = some v) (q : Q v H) : rIxD K (.ref p) (.int i) H Q := .inr (.inl ⟨p, xs, i, v, rfl, rfl, h, c, q⟩)
theorem rv_ixS {z : Str} {i : Int} {c : Nat} (h : z.length ≤ sizeLine) (e : atI z.cps.toList i = some c) (q : Q (.str ⟨#[c]⟩) H) : rIxD K (.str z) (.int i) H Q := .inr (.inr ⟨z, i, c, rfl, rfl, h, e, q⟩)
theorem rv_inS {c : Nat} {z : Str} (q : Q (.bl (decide (c ∈ z.cps.toList))) H) : rInD K false (.str ⟨#[c]⟩) (.str z) H Q := .inr ⟨c, z, rfl, rfl, q⟩
theorem rv_ninS {c : Nat} {z : Str} (q : Q (.bl (!decide (c ∈ z.cps.toList))) H) : rInD K true (.str ⟨#[c]⟩) (.str z) H Q := .inr ⟨c, z, rfl, rfl, q⟩
theorem rv_inL {p : Addr} {xs : List V} (h : SqL K H p xs) (hx : flatV x = true) (hf : xs.all flatV = true) (q : Q (.bl (inV x xs)) H) : rInD K false x (.ref p) H Q := .inl ⟨p, xs, rfl, .inl h, hx, hf, q⟩
theorem rv_ninL {p : Addr} {xs : List V} (h : SqL K H p xs) (hx : flatV x = true) (hf : xs.all flatV = true) (q : Q (.bl (!inV x xs)) H) : rInD K true x (.ref p) H Q := .inl ⟨p, xs, rfl, .inl h, hx, hf, q⟩
theorem rv_all {p : Addr} {bs : List Bool} (h : SqL K H p (bs.map V.bl)) (q : Q (.bl (bs.all id)) H) : rAll K [.ref p] H Q := ⟨p, bs, rfl, h, q⟩
theorem rv_int {i : Int} (q : Q (.int i) H) : rIntD [.int i] H Q := .inl ⟨i, rfl, q⟩
theorem rv_lenL {p : Addr} {xs : List V} (h : SqL K H p xs) (q : Q (.int xs.length) H) : rLenD K [.ref p] H Q := ⟨_, _, rfl, .inl ⟨xs, h, rfl⟩, q⟩
theorem rv_lenT {p : Addr} {xs : List V} (h : SqT K H p xs) (q : Q (.int xs.length) H) : rLenD K [.ref p] H Q := ⟨_, _, rfl, .inr ⟨xs, h, rfl⟩, q⟩
theorem rv_lenS {z : Str} (h : z.length ≤ sizeLine) (q : Q (.int z.length) H) : rLenD K [.str z] H Q := ⟨_, _, rfl, ⟨h, rfl⟩, q⟩
theorem rv_abs {i : Int} (q : Q (.int (if i < 0 then -i else i)) H) : rAbsD [.int i] H Q := ⟨i, rfl, q⟩
theorem rv_max2 {i j : Int} (q : Q (.int (if j > i then j else i)) H) : rMax2D [.int i, .int j] H Q := ⟨i, j, rfl, q⟩
theorem rv_min2 {i j : Int} (q : Q (.int (if j < i then j else i)) H) : rMin2D [.int i, .int j] H Q := ⟨i, j, rfl, q⟩
theorem rv_ord {c : Nat} (q : Q (.int (c : Int)) H) : rOrdD [.str ⟨#[c]⟩] H Q := ⟨_, rfl, rfl, q⟩
theorem rv_setL {p : Addr} {xs : List V} {k : Int} {j : Nat} {Q : Hp → Prop} (h : H p = some (.lst xs)) (c : ixN xs.length k = some j) (q : Q (upd H p (.lst (xs.set j v)))) : rSetL (.ref p) (.int k) v H Q := ⟨p, xs, k, j, rfl, rfl, h, c, q⟩
theorem rv_app {l : Addr} {xs : List V} (h : H l = some (.lst xs)) (c : xs.length < sizeLine) (q : Q .non (upd H l (.lst (xs ++ [y])))) : rAppend (.ref l) [y] H Q := ⟨l, xs, y, rfl, rfl, h, c, q⟩
theorem rv_ext {l b : Addr} {xs zs : List V} (h : H l = some (.lst xs)) (h2 : H b = some (.lst zs)) (c : xs.length + zs.length ≤ sizeLine) (q : Q .non (upd H l (.lst (xs ++ zs)))) : rExtend (.ref l) [.ref b] H Q := ⟨l, b, xs, zs, rfl, rfl, h, h2, c, q⟩
theorem rv_slL {p : Addr} {xs : List V} {lo hi : Option Int} (h : SqL K H p xs) (q : ∀ a, H a = none → Q (.ref a) (upd H a (.lst (cutV xs lo hi)))) : rSlD K (.ref p) lo hi H Q := .inl ⟨p, xs, rfl, h, q⟩
theorem rv_slS {z : Str} {lo hi : Option Int} (h : z.length ≤ sizeLine) (q : Q (.str (cutS z lo hi)) H) : rSlD K (.str z) lo hi H Q := .inr ⟨z, rfl, h, q⟩
theorem rv_neg {i : Int} (q : Q (.int (-i)) H) : rU (fun i => .int (-i)) (.int i) H Q := ⟨i, rfl, q⟩
end
theorem same_upd {H : Hp} {p : Addr} {o : HO} (h : H p = none) : Same H (upd H p o) := fun b x e => by
  rw [upd_ne (ne_of_none e h)]
  exact e
/-- all that stands elsewhere than at b is kept -/
def Off (b : Addr) (H H' : Hp) : Prop := ∀ a o, a ≠ b → H a = some o → H' a = some o
theorem Off.get {b : Addr} {H H' : Hp} {a : Addr} {o : HO} (h : Off b H H') (n : a ≠ b) (e : H a = some o) : H' a = some o := h a o n e
theorem Off.refl (b : Addr) (H : Hp) : Off b H H := fun _ _ _ e => e
theorem Off.trans {b : Addr} {H H1 H2 : Hp} (x : Off b H H1) (y : Off b H1 H2) : Off b H H2 := fun a o n e => y a o n (x a o n e)
theorem Off.new {b : Addr} {H H1 : Hp} {p : Addr} {o : HO} (x : Off b H H1) (h : H1 p = none) : Off b H (upd H1 p o) := fun a u n e => by
  have z := x a u n e
  rw [upd_ne (ne_of_none z h)]
  exact z
theorem Off.set {b : Addr} {H H1 : Hp} {o : HO} (x : Off b H H1) : Off b H (upd H1 b o) := fun a u n e => by
  rw [upd_ne n]
  exact x a u n e
theorem Off.mut {b : Addr} {H H1 : Hp} {p : Addr} {o : HO} (x : Off b H H1) (h : H p = none) : Off b H (upd H1 p o) := fun a u n e => by
  rw [upd_ne (ne_of_none e h)]
  exact x a u n e
theorem Off.of_same {b : Addr} {H H1 : Hp} (x : Same H H1) : Off b H H1 := fun a o _ e => x a o e
theorem Off.fresh {b : Addr} {H H1 : Hp} {p : Addr} (x : Off b H H1) (n : p ≠ b) (h : H1 p = none) : H p = none := by
  cases e : H p with
  | none => rfl
  | some o => rw [x p o n e] at h; cases h
theorem Off.seq {K : PySem.W.Frag} {b : Addr} {H H' : Hp} {a : Addr} {xs : List V} (h : Off b H H') (n : a ≠ b) (e : SqL K H a xs) : SqL K H' a xs := by
  rcases e with e | e
  · rcases e with e | ⟨o, e⟩
    · exact .inl (.inl (h a _ n e))
    · exact .inl (.inr ⟨o, h a _ n e⟩)
  · exact .inr e
theorem Off.seqT {K : PySem.W.Frag} {b : Addr} {H H' : Hp} {a : Addr} {xs : List V} (h : Off b H H') (n : a ≠ b) (e : SqT K H a xs) : SqT K H' a xs := by
  rcases e with e | e
  · rcases e with e | ⟨o, e⟩
    · exact .inl (.inl (h a _ n e))
    · exact .inl (.inr ⟨o, h a _ n e⟩)
  · exact .inr e
theorem sq_set {K : PySem.W.Frag} {H : Hp} {b c : Addr} {o : HO} {xs : List V} (n : c ≠ b) (e : SqL K H c xs) : SqL K (upd H b o) c xs := (Off.refl b H).set.seq n e
theorem sq_new {K : PySem.W.Frag} {H : Hp} {p c : Addr} {o : HO} {xs : List V} (n : H p = none) (e : SqL K H c xs) : SqL K (upd H p o) c xs := (same_upd n).seq e
theorem hp_set {H : Hp} {b a : Addr} {o : HO} {u : Option HO} (n : a ≠ b) (e : H a = u) : upd H b o a = u := (upd_ne n).trans e
theorem hp_new {H : Hp} {p a : Addr} {o u : HO} (n : H p = none) (e : H a = some u) : upd H p o a = some u := same_upd n _ _ e
theorem iteD {p A B : Prop} [Decidable p] (h1 : p → A) (h2 : ¬ p → B) : if decide p = true then A else B := by
  by_cases h : p
  · rw [if_pos (decide_eq_true h)]; exact h1 h
  · rw [if_neg (by simpa using h)]; exact h2 h
theorem iteND {p A B : Prop} [Decidable p] (h1 : ¬ p → A) (h2 : p → B) : if (!decide p) = true then A else B := by
  by_cases h : p
  · rw [if_neg (by simpa using h)]; exact h2 h
  · rw [if_pos (by simpa using h)]; exact h1 h
theorem iteB {b : Bool} {A B : Prop} (h1 : b = true → A) (h2 : b = false → B) : if b = true then A else B := by
  cases b
  · rw [if_neg Bool.false_ne_true]; exact h2 rfl
  · rw [if_pos rfl]; exact h1 rfl
theorem sz4 {n : Nat} (h : n ≤ 100000) : n ≤ sizeLine := Nat.le_trans h (by decide)
theorem sz4' {n : Nat} (h : n ≤ 100000) : n < sizeLine := Nat.lt_of_le_of_lt h (by decide)
theorem at_ints {cs : List Int} {i : Int} (h0 : 0 ≤ i) (h1 : i < ((cs.map V.int).length : Int)) : atI (cs.map V.int) i = some (.int (cs.getD i.toNat 0)) := by
  obtain ⟨j, rfl⟩ := Int.eq_ofNat_of_zero_le h0
  have hl : j < cs.length := by rw [List.length_map] at h1; omega
  refine atI_nat ?_
  rw [List.getElem?_map, List.getElem?_eq_getElem hl]
  simp [List.getD_eq_getElem?_getD, hl]
theorem fm0 {x m : Int} (h : 0 < m) : 0 ≤ x.fmod m := by rw [Int.fmod_eq_emod_of_nonneg _ (by omega)]; exact Int.emod_nonneg _ (by omega)
theorem fm1 {x m : Int} (h : 0 < m) : x.fmod m < m := by rw [Int.fmod_eq_emod_of_nonneg _ (by omega)]; exact Int.emod_lt_of_pos _ h
theorem mul_fm {x c j : Int} (h : 0 < c) (h2 : c ≤ 2 ^ 64) : CMul (x.fmod c) j := .inl ⟨by have := fm0 (x := x) h; omega, by have := fm1 (x := x) h; omega⟩
theorem div_m {z m : Int} (h : 0 < m) (h2 : m < 2 ^ 1000) : CDivW z m := wide_div (b := 1000) h (by omega) (by decide) (by decide)
theorem div97 {z : Int} : CDivW z 97 := wide_div (b := 8) (by decide) (by decide) (by decide) (by decide)
theorem div3 {z : Int} : CDivW z 3 := wide_div (b := 8) (by decide) (by decide) (by decide) (by decide)
theorem div2 {z : Int} : CDivW z 2 := wide_div (b := 8) (by decide) (by decide) (by decide) (by decide)
def BagAt (b c : Addr) (cs : List Int) (H : Hp) : Prop := ∃ (i z s n k : Int), H b = some (.lst [.ref c, .int i, .int z, .int s, .int n, .int k]) ∧ c ≠ b ∧ H c = some (.lst (cs.map V.int)) ∧ 0 ≤ i ∧ 0 ≤ z
theorem BagAt.ne {b c : Addr} {cs : List Int} {H : Hp} {p : Addr} (x : BagAt b c cs H) (h : H p = none) : p ≠ b := by
  obtain ⟨i, z, s, n, k, e, _⟩ := x
  exact (ne_of_none e h).symm
theorem BagAt.ne2 {b c : Addr} {cs : List Int} {H : Hp} {p : Addr} (x : BagAt b c cs H) (h : H p = none) : p ≠ c := by
  obtain ⟨i, z, s, n, k, e, _, e2, _⟩ := x
  exact (ne_of_none e2 h).symm
theorem BagAt.put {b c : Addr} {cs : List Int} {H : Hp} {p : Addr} {o : HO} (x : BagAt b c cs H) (h : p ≠ b) (h2 : p ≠ c) : BagAt b c cs (upd H p o) := by
  obtain ⟨i, z, s, n, k, e, nc, hc, h1, h2'⟩ := x
  exact ⟨i, z, s, n, k, (upd_ne h.symm).trans e, nc, (upd_ne h2.symm).trans hc, h1, h2'⟩
theorem BagAt.new {b c : Addr} {cs : List Int} {H : Hp} {p : Addr} {o : HO} (x : BagAt b c cs H) (h : H p = none) : BagAt b c cs (upd H p o) := x.put (x.ne h) (x.ne2 h)
theorem BagAt.same {b c : Addr} {cs : List Int} {H H' : Hp} (x : BagAt b c cs H) (f : Same H H') : BagAt b c cs H' := by
  obtain ⟨i, z, s, n, k, e, nc, hc, h1, h2⟩ := x
  exact ⟨i, z, s, n, k, f _ _ e, nc, f _ _ hc, h1, h2⟩
def spDraw : Sp := fun vs H Q _ => ∃ (b c : Addr) (cs : List Int) (m : Int), vs = [.ref b, .int m] ∧ 0 < m ∧ m < 2 ^ 1000 ∧ BagAt b c cs H ∧ ∀ H' (r : Int), Off b H H' → BagAt b c cs H' → 0 ≤ r → r < m → Q (.int r) H'
def spBag (K : PySem.W.Frag) : Sp := fun vs H Q _ => ∃ (a : Addr) (ns : List Int), vs = [.ref a] ∧ SqL K H a (ns.map V.int) ∧ ns.length ≤ 63 ∧ ∀ H' b c cs, Same H H' → H b = none → BagAt b c cs H' → Q (.ref b) H'
theorem at_all {xs : List V} {P : V → Prop} (h : ∀ v ∈ xs, P v) {i : Int} (h0 : 0 ≤ i) (h1 : i < (xs.length : Int)) : ∃ v, atI xs i = some v ∧ P v := by
  obtain ⟨j, rfl⟩ := Int.eq_ofNat_of_zero_le h0
  have hl : j < xs.length := by omega
  exact ⟨xs[j], atI_nat (List.getElem?_eq_getElem hl), h _ (List.getElem_mem hl)⟩
theorem at_str {z : Str} {i : Int} (h0 : 0 ≤ i) (h1 : i < (z.length : Int)) : ∃ c, atI z.cps.toList i = some c ∧ c ∈ z.cps.toList := by
  obtain ⟨j, rfl⟩ := Int.eq_ofNat_of_zero_le h0
  have hl : j < z.cps.toList.length := by have : z.cps.toList.length = z.length := by simp [Str.length]
                                          omega
  exact ⟨z.cps.toList[j], atI_nat (List.getElem?_eq_getElem hl), List.getElem_mem hl⟩
end D0
namespace D0
open PySem PySem.Spec PyProof.Rows L2
section
variable {K : PySem.W.Frag} {σ : L2.St} {H : Hp} {Q : VK} {te tl : TE} {ta : TA} {vs : List Nat} {j : Nat}
theorem rd_yes {Q : Bool → Hp → Prop} (q : Q true H) : tYes σ H Q := q
theorem rd_callN {n m : Nat} {sp : Sp} {gV : List V → List V → List V} {E : XK} {t tk : TA} (q : t σ H fun vs H1 => tk σ H1 fun zs H2 => vs.length = n ∧ zs.length = m ∧ sp (gV vs zs) H2 Q E) : tCallN n m sp gV E t tk σ H Q := q
theorem rv_slSany {z : Str} {lo hi : Option Int} (h : z.length ≤ sizeLine) (q : ∀ y : Str, y.length ≤ z.length → Q (.str y) H) : rSlD K (.str z) lo hi H Q := rv_slS h (q _ (cutS_length z lo hi))
theorem ones (us : List Nat) : (us.map fun _ => 1).sum = us.length := by
  induction us with
  | nil => rfl
  | cons x r ih => rw [List.map_cons, List.sum_cons, ih, List.length_cons]; omega
theorem strlen_app (a b : Str) : (a ++ b).length = a.length + b.length := PySem.Str.length_append a b
theorem dRevL {X : Cx} (K : PySem.W.Frag) {e : Expr} {te : TE} {k : Nat} {p1 p2 p3 pos : Pos} (he : PE X e te) (hK : X.K = K := by rfl) : PE X (.Subscript e (.Slice none none (some (.UnaryOp .USub (.Constant (.int 1) k p1) p2)) p3) pos) (tRevL K te) := by subst hK; exact pe_revL he
theorem rd_revL (q : te σ H fun x H1 => ∃ a xs, x = .ref a ∧ SqL K H1 a xs ∧ ∀ p, H1 p = none → Q (.ref p) (upd H1 p (.lst xs.reverse))) : tRevL K te σ H Q := q
theorem rv_revL {a : Addr} {xs : List V} {R : Addr → List V → Prop} (h : SqL K H a xs) (q : R a xs) : ∃ a' xs', V.ref a = .ref a' ∧ SqL K H a' xs' ∧ R a' xs' := ⟨a, xs, rfl, h, q⟩
theorem rd_rng1 {R : It → Hp → Prop} (q : ta σ H fun vs H1 => ∃ j : Int, vs = [.int j] ∧ -(2 ^ 62) ≤ j ∧ j < 2 ^ 62 ∧ R (Itr 0 j.toNat) H1) : iRng1 ta σ H R := q
theorem rd_ss {z : Str} {P : Str → Prop} (q : P z) : ∃ k, V.str z = V.str k ∧ P k := ⟨z, rfl, q⟩
theorem rv_up {z : Str} {P : Str → Prop} (h : z.length ≤ 5592405) (q : P z) : ∃ a, V.str z = V.str a ∧ ([] : List V) = [] ∧ a.length ≤ 5592405 ∧ P a := ⟨z, rfl, rfl, h, q⟩
theorem rd_iList {R : It → Hp → Prop} (q : te σ H fun x H1 => ∃ a, x = .ref a ∧ (∃ xs, SqL K H1 a xs) ∧ R (Itl K a) H1) : iList K te σ H R := q
theorem rv_iL {a : Addr} {xs : List V} {R : Addr → Prop} (h : SqL K H a xs) (q : R a) : ∃ a', V.ref a = .ref a' ∧ (∃ xs, SqL K H a' xs) ∧ R a' := ⟨a, rfl, ⟨xs, h⟩, q⟩
theorem rd_for {wi : TI} {g : TG} {tb : TS} {D : Ends} (q : wi σ H fun J H1 => ∃ W : Nat → Nat → L2.St → Hp → Prop, (∃ m, W 0 m σ H1) ∧ ∀ i m σ H, W i m σ H →
    (J.stop i H ∧ D.nx σ H) ∨ (J.go i H ∧ ∃ N : L2.St → Hp → Prop, (∀ σ' H', N σ' H' → ∃ m', m' < m ∧ W (i + 1) m' σ' H') ∧ ∀ x H', J.yld i H x H' → g x σ H' fun σ2 H2 => tb { D with nx := N, ct := N, bk := D.nx } σ2 H2)) : tFor wi g tb D σ H := q
theorem rv_isiB {b : Bool} {ty : String} {r : Bool} (h : kitB "bool" ty = some r) (q : Q (.bl r) H) : rIsi K [.bl b, .ty ty] H Q := ⟨_, _, _, _, _, rfl, .ty ty, .base (.bl b), kit_ty h, q⟩
theorem rv_isiI {b : Int} {ty : String} {r : Bool} (h : kitB "int" ty = some r) (q : Q (.bl r) H) : rIsi K [.int b, .ty ty] H Q := ⟨_, _, _, _, _, rfl, .ty ty, .base (.int b), kit_ty h, q⟩
theorem rv_isiN {ty : String} {r : Bool} (h : kitB "NoneType" ty = some r) (q : Q (.bl r) H) : rIsi K [.non, .ty ty] H Q := ⟨_, _, _, _, _, rfl, .ty ty, .base .non, kit_ty h, q⟩
theorem rv_isiL {a : Addr} {xs : List V} {ty : String} {r : Bool} (e : H a = some (.lst xs)) (h : kitB "list" ty = some r) (q : Q (.bl r) H) : rIsi K [.ref a, .ty ty] H Q := ⟨_, _, _, _, _, rfl, .ty ty, .base (.lst e), kit_ty h, q⟩
theorem rv_isiT {a : Addr} {xs : List V} {ty : String} {r : Bool} (e : H a = some (.tup xs)) (h : kitB "tuple" ty = some r) (q : Q (.bl r) H) : rIsi K [.ref a, .ty ty] H Q := ⟨_, _, _, _, _, rfl, .ty ty, .base (.tup e), kit_ty h, q⟩
theorem rv_isiS {b : Str} {ty : String} {r : Bool} (h : kitB "str" ty = some r) (q : Q (.bl r) H) : rIsi K [.str b, .ty ty] H Q := ⟨_, _, _, _, _, rfl, .ty ty, .base (.str b), kit_ty h, q⟩
theorem isi_bool_bool : kitB "bool" "bool" = some true := by decide +kernel
theorem isi_bool_int : kitB "bool" "int" = some true := by decide +kernel
theorem isi_bool_str : kitB "bool" "str" = some false := by decide +kernel
theorem isi_bool_list : kitB "bool" "list" = some false := by decide +kernel
theorem isi_bool_tuple : kitB "bool" "tuple" = some false := by decide +kernel
theorem isi_bool_dict : kitB "bool" "dict" = some false := by decide +kernel
theorem isi_int_bool : kitB "int" "bool" = some false := by decide +kernel
theorem isi_int_int : kitB "int" "int" = some true := by decide +kernel
theorem isi_int_str : kitB "int" "str" = some false := by decide +kernel
theorem isi_int_list : kitB "int" "list" = some false := by decide +kernel
theorem isi_int_tuple : kitB "int" "tuple" = some false := by decide +kernel
theorem isi_int_dict : kitB "int" "dict" = some false := by decide +kernel
theorem isi_str_bool : kitB "str" "bool" = some false := by decide +kernel
theorem isi_str_int : kitB "str" "int" = some false := by decide +kernel
theorem isi_str_str : kitB "str" "str" = some true := by decide +kernel
theorem isi_str_list : kitB "str" "list" = some false := by decide +kernel
theorem isi_str_tuple : kitB "str" "tuple" = some false := by decide +kernel
theorem isi_str_dict : kitB "str" "dict" = some false := by decide +kernel
theorem isi_list_bool : kitB "list" "bool" = some false := by decide +kernel
theorem isi_list_int : kitB "list" "int" = some false := by decide +kernel
theorem isi_list_str : kitB "list" "str" = some false := by decide +kernel
theorem isi_list_list : kitB "list" "list" = some true := by decide +kernel
theorem isi_list_tuple : kitB "list" "tuple" = some false := by decide +kernel
theorem isi_list_dict : kitB "list" "dict" = some false := by decide +kernel
theorem isi_tuple_bool : kitB "tuple" "bool" = some false := by decide +kernel
theorem isi_tuple_int : kitB "tuple" "int" = some false := by decide +kernel
theorem isi_tuple_str : kitB "tuple" "str" = some false := by decide +kernel
theorem isi_tuple_list : kitB "tuple" "list" = some false := by decide +kernel
theorem isi_tuple_tuple : kitB "tuple" "tuple" = some true := by decide +kernel
theorem isi_tuple_dict : kitB "tuple" "dict" = some false := by decide +kernel
theorem isi_dict_bool : kitB "dict" "bool" = some false := by decide +kernel
theorem isi_dict_int : kitB "dict" "int" = some false := by decide +kernel
theorem isi_dict_str : kitB "dict" "str" = some false := by decide +kernel
theorem isi_dict_list : kitB "dict" "list" = some false := by decide +kernel
theorem isi_dict_tuple : kitB "dict" "tuple" = some false := by decide +kernel
theorem isi_dict_dict : kitB "dict" "dict" = some true := by decide +kernel
theorem isi_NoneType_bool : kitB "NoneType" "bool" = some false := by decide +kernel
theorem isi_NoneType_int : kitB "NoneType" "int" = some false := by decide +kernel
theorem isi_NoneType_str : kitB "NoneType" "str" = some false := by decide +kernel
theorem isi_NoneType_list : kitB "NoneType" "list" = some false := by decide +kernel
theorem isi_NoneType_tuple : kitB "NoneType" "tuple" = some false := by decide +kernel
theorem isi_NoneType_dict : kitB "NoneType" "dict" = some false := by decide +kernel
theorem rd_wipe {σ1 σ2 : L2.St} {R : Prop} (h : σ1 = σ2) (q : R) : σ1 = σ2 ∧ R := ⟨h, q⟩
theorem upd_lst {H : Hp} {D : Addr} {o u : HO} : upd (upd H D o) D u = upd H D u := upd_upd
/-- [e for x in xs], e of x a value f x -/
theorem lc_map {a : Addr} {xs : List V} (f : V → V) (hl : ∀ Qe : VK, Qe (.ref a) H → tl σ H Qe) (hs : SqL K H a xs) (hz : xs.length < sizeLine) (hw : ∀ x, wipe ((wipe σ vs).set j (some x)) vs = wipe σ vs)
    (he : ∀ (i : Nat) (x : V) (H' : Hp), xs[i]? = some x → Same H H' → ∀ Qe : VK, (∀ H'', Same H' H'' → Qe (f x) H'') → te ((wipe σ vs).set j (some x)) H' Qe)
    (q : ∀ D H', H D = none → Same H H' → H' D = some (.lst (xs.map f)) → Q (.ref D) H') : tLc (iList K tl) (gName j) tYes te vs σ H Q := by
  refine hl _ ⟨a, rfl, ⟨_, hs⟩, fun D hD => ?_⟩
  refine lc_list (K := K) (a := a) (xs := xs) (fun i H' => Same H H' ∧ H' D = some (.lst ((xs.take i).map f))) ⟨same_upd hD, upd_same⟩ (fun i H' _ h => h.1.seq hs) ?_ ?_
  · rintro i x H' hx ⟨s, e⟩
    refine ⟨hw x, rd_yes (iteT ?_)⟩
    refine he i x H' hx s _ fun H'' s2 => ?_
    refine ⟨_, s2 _ _ e, ?_, ?_, ?_⟩
    · rw [List.length_map, List.length_take]; omega
    · intro b o eb
      have nb : b ≠ D := ne_of_none eb hD
      rw [upd_ne nb]
      exact s2 _ _ (s _ _ eb)
    · rw [upd_same, List.take_add_one, hx, List.map_append]; rfl
  · rintro H' ⟨s, e⟩
    rw [List.take_length] at e
    exact q D H' hD s e
/-- [e for k in range(n)], e drawing from the bag at b; every item has P -/
theorem lc_draw {b c : Addr} {cs : List Int} {n : Nat} (P : V → Prop) (hn : n ≤ 1000000) (hl : ∀ Qe : List V → Hp → Prop, Qe [.int (n : Int)] H → ta σ H Qe) (B : BagAt b c cs H) (hw : ∀ x, wipe ((wipe σ vs).set j (some x)) vs = wipe σ vs)
    (he : ∀ (i : Nat) (H' : Hp), i < n → Off b H H' → BagAt b c cs H' → ∀ Qe : VK, (∀ (y : V) (H'' : Hp), Off b H' H'' → BagAt b c cs H'' → P y → Qe y H'') → te ((wipe σ vs).set j (some (.int (i : Int)))) H' Qe)
    (q : ∀ D ys H', H D = none → Off b H H' → BagAt b c cs H' → H' D = some (.lst ys) → ys.length = n → (∀ y ∈ ys, P y) → Q (.ref D) H') : tLc (iRng1 ta) (gName j) tYes te vs σ H Q := by
  have hz : n < sizeLine := Nat.lt_of_le_of_lt hn (by decide)
  refine hl _ ⟨(n : Int), rfl, by omega, by omega, fun D hD => ?_⟩
  have hDb : D ≠ b := B.ne hD
  have hDc : D ≠ c := B.ne2 hD
  refine lc_range (lo := 0) (n := ((n : Int)).toNat) (fun i H' => ∃ ys : List V, Off b H H' ∧ BagAt b c cs H' ∧ H' D = some (.lst ys) ∧ ys.length = i ∧ ∀ y ∈ ys, P y) ⟨[], (Off.refl b H).new hD, B.new hD, upd_same, rfl, fun y h => nomatch h⟩ ?_ ?_
  · rintro i H' hi ⟨ys, f, B', e, el, hp⟩
    refine ⟨hw _, rd_yes (iteT ?_)⟩
    rw [show (0 : Int) + (i : Int) = (i : Int) by omega]
    refine he i H' (by omega) f B' _ fun y H'' f2 B2 py => ?_
    have e2 := f2.get hDb e
    refine ⟨_, e2, by omega, ys ++ [y], (f.trans f2).mut hD, B2.put hDb hDc, upd_same, by simp [el], ?_⟩
    intro y' hy
    rcases List.mem_append.mp hy with hy | hy
    · exact hp y' hy
    · rw [List.mem_singleton.mp hy]; exact py
  · rintro H' ⟨ys, f, B', e, el, hp⟩
    exact q D ys H' hD f B' e (by omega) hp
/-- [e for s in text], e of a sign a value f c -/
theorem lc_smap {z : Str} (f : Nat → V) (hl : ∀ Qe : VK, Qe (.str z) H → tl σ H Qe) (hz : z.length < sizeLine) (hw : ∀ x, wipe ((wipe σ vs).set j (some x)) vs = wipe σ vs)
    (he : ∀ (i : Nat) (c : Nat) (H' : Hp), z.cps[i]? = some c → Same H H' → ∀ Qe : VK, (∀ H'', Same H' H'' → Qe (f c) H'') → te ((wipe σ vs).set j (some (.str ⟨#[c]⟩))) H' Qe)
    (q : ∀ D H', H D = none → Same H H' → H' D = some (.lst (z.cps.toList.map f)) → Q (.ref D) H') : tLc (iStr tl) (gName j) tYes te vs σ H Q := by
  refine hl _ ⟨z, rfl, fun D hD => ?_⟩
  refine ⟨fun i m H' => i + m = z.cps.size ∧ Same H H' ∧ H' D = some (.lst ((z.cps.toList.take i).map f)), ⟨z.cps.size, by omega, same_upd hD, upd_same⟩, ?_⟩
  rintro i m H' ⟨em, s, e⟩
  by_cases hi : i < z.cps.size
  · refine .inr ⟨hi, fun H2 => Same H H2 ∧ H2 D = some (.lst ((z.cps.toList.take (i + 1)).map f)), fun H2 h2 => ⟨m - 1, by omega, by omega, h2.1, h2.2⟩, ?_⟩
    rintro x H2 ⟨rfl, c, hc, rfl⟩
    refine ⟨hw _, rd_yes (iteT ?_)⟩
    refine he i c H2 hc s _ fun H'' s2 => ?_
    refine ⟨_, s2 _ _ e, ?_, ?_, ?_⟩
    · rw [List.length_map, List.length_take]; show _ < sizeLine; have : z.length = z.cps.size := rfl; have : z.cps.toList.length = z.cps.size := by simp
      omega
    · intro b o eb
      have nb : b ≠ D := ne_of_none eb hD
      rw [upd_ne nb]
      exact s2 _ _ (s _ _ eb)
    · have hc' : z.cps.toList[i]? = some c := by rw [Array.getElem?_toList]; exact hc
      rw [upd_same, List.take_add_one, hc', List.map_append]; rfl
  · refine .inl ⟨by show z.cps.size ≤ i; omega, ?_⟩
    have ei : z.cps.toList.take i = z.cps.toList := List.take_of_length_le (by simp; omega)
    rw [ei] at e
    exact q D H' hD s e
end
end D0
namespace D0
open PySem PySem.Spec PyProof.Rows L2
def TS (H H' : Hp) : Prop := ∀ a xs, H a = some (.tup xs) → H' a = some (.tup xs)
theorem TS.refl (H : Hp) : TS H H := fun _ _ e => e
theorem TS.trans {H H1 H2 : Hp} (x : TS H H1) (y : TS H1 H2) : TS H H2 := fun a xs e => y a xs (x a xs e)
theorem TS.of_same {H H' : Hp} (x : Same H H') : TS H H' := fun a xs e => x a _ e
theorem TS.new {H H1 : Hp} {p : Addr} {o : HO} (x : TS H H1) (h : H1 p = none) : TS H (upd H1 p o) := x.trans (.of_same (same_upd h))
theorem TS.put {H H1 : Hp} {p : Addr} {ys : List V} {o : HO} (x : TS H H1) (h : H1 p = some (.lst ys)) : TS H (upd H1 p o) := fun a xs e => by
  have z := x a xs e
  rw [upd_ne (ne_of z h (fun q => by cases q))]
  exact z
theorem BagAt.ts {b c : Addr} {cs : List Int} {H H' : Hp} (x : BagAt b c cs H) (f : Off b H H') : TS H H' := fun a xs e => by
  obtain ⟨i, z, s, n, k, eb, _⟩ := x
  exact f a _ (ne_of e eb (fun q => by cases q)) e
/-- a tuple of ints -/
def Tn (H : Hp) (v : V) (ns : List Int) : Prop := ∃ a, v = .ref a ∧ H a = some (.tup (ns.map V.int))
theorem Tn.ts {H H' : Hp} {v : V} {ns : List Int} (x : Tn H v ns) (t : TS H H') : Tn H' v ns := by
  obtain ⟨a, e, h⟩ := x
  exact ⟨a, e, t _ _ h⟩
abbrev RowsAt (H : Hp) (vs : List V) (rs : List (List Int)) : Prop := Paired (Tn H) vs rs
theorem RowsAt.ts {H H' : Hp} {vs : List V} {rs : List (List Int)} (x : RowsAt H vs rs) (t : TS H H') : RowsAt H' vs rs := Paired.mapP x fun _ _ h => h.ts t
theorem Paired.get1 {α β : Type} {F : α → β → Prop} : ∀ {xs : List α} {ys : List β} {i : Nat} {x : α}, Paired F xs ys → xs[i]? = some x → ∃ y, ys[i]? = some y ∧ F x y
  | _, _, _, _, .nil, h => by cases h
  | _, _, 0, _, .cons f _, h => ⟨_, rfl, by cases h; exact f⟩
  | _, _, i + 1, _, .cons _ r, h => Paired.get1 (i := i) r h
theorem Paired.len {α β : Type} {F : α → β → Prop} : ∀ {xs : List α} {ys : List β}, Paired F xs ys → xs.length = ys.length
  | _, _, .nil => rfl
  | _, _, .cons _ r => by rw [List.length_cons, List.length_cons, Paired.len r]
/-- a system (count, bounds, pulls) -/
def SysAt (H : Hp) (v : V) (n : Nat) (bs ps : List (List Int)) : Prop := ∃ (a p q : Addr) (vb vp : List V), v = .ref a ∧ H a = some (.tup [.int n, .ref p, .ref q]) ∧ H p = some (.tup vb) ∧ RowsAt H vb bs ∧ H q = some (.tup vp) ∧ RowsAt H vp ps
theorem SysAt.ts {H H' : Hp} {v : V} {n : Nat} {bs ps : List (List Int)} (x : SysAt H v n bs ps) (t : TS H H') : SysAt H' v n bs ps := by
  obtain ⟨a, p, q, vb, vp, e, ha, hp, rb, hq, rp⟩ := x
  exact ⟨a, p, q, vb, vp, e, t _ _ ha, t _ _ hp, rb.ts t, t _ _ hq, rp.ts t⟩
def OkB (n : Nat) (bs : List (List Int)) : Prop := ∀ r ∈ bs, ∃ s e g : Int, r = [s, e, g] ∧ 0 ≤ s ∧ s < n ∧ 0 ≤ e ∧ e < n ∧ s ≠ e ∧ -1000000000 ≤ g ∧ g ≤ 1000000000
def OkP (n : Nat) (ps : List (List Int)) : Prop := ∀ r ∈ ps, ∃ s e g w : Int, r = [s, e, g, w] ∧ 0 ≤ s ∧ s < n ∧ 0 ≤ e ∧ e < n ∧ s ≠ e ∧ -1000000000 ≤ g ∧ g ≤ 1000000000 ∧ 0 ≤ w ∧ w ≤ 99
/-- the same, not seen by the walk -/
def OffG (b : Addr) (H H' : Hp) : Prop := Off b H H'
def spWhole : Sp := fun vs H Q _ => ∃ i : Int, vs = [.int i] ∧ Q (.bl true) H
def spGap : Sp := fun vs H Q _ => ∃ (b c : Addr) (cs : List Int), vs = [.ref b] ∧ BagAt b c cs H ∧ ∀ H' (g : Int), Off b H H' → BagAt b c cs H' → -1000000 ≤ g → g ≤ 1000000 → Q (.int g) H'
def spEnds : Sp := fun vs H Q _ => ∃ (b c : Addr) (cs : List Int) (n : Nat), vs = [.ref b, .int n] ∧ 2 ≤ n ∧ n ≤ 10000 ∧ BagAt b c cs H ∧ ∀ H' a (s e : Int), Off b H H' → BagAt b c cs H' → H' a = some (.tup [.int s, .int e]) → 0 ≤ s → s < n → 0 ≤ e → e < n → s ≠ e → Q (.ref a) H'
/-- all is kept but what stands at b and at l -/
def Off2 (b l : Addr) (H H' : Hp) : Prop := ∀ a o, a ≠ b → a ≠ l → H a = some o → H' a = some o
theorem Off2.of_off {b l : Addr} {H H' : Hp} (x : Off b H H') : Off2 b l H H' := fun a o n _ e => x a o n e
theorem Off2.mut {b l : Addr} {H H1 : Hp} {o : HO} (x : Off2 b l H H1) : Off2 b l H (upd H1 l o) := fun a u n n2 e => (upd_ne n2).trans (x a u n n2 e)
theorem Off2.new {b l p : Addr} {H H1 : Hp} {o : HO} (x : Off2 b l H H1) (h : H1 p = none) : Off2 b l H (upd H1 p o) := fun a u n n2 e => same_upd h _ _ (x a u n n2 e)
theorem Off2.off {b l : Addr} {H H1 H2 : Hp} (x : Off2 b l H1 H2) (f : Off b H H1) (h : H l = none) : Off b H H2 := fun a u n e => x a u n (ne_of_none e h) (f a u n e)
/-- its items as a tuple, or its items and one of them once more -/
def spDoubled : Sp := fun vs H Q _ => ∃ (b c : Addr) (cs : List Int) (l : Addr) (xs : List V), vs = [.ref b, .ref l] ∧ BagAt b c cs H ∧ H l = some (.lst xs) ∧ l ≠ b ∧ l ≠ c ∧ xs.length ≤ 10000 ∧
  ∀ H' a ys, Off2 b l H H' → BagAt b c cs H' → TS H H' → H' a = some (.tup ys) → (ys = xs ∨ ∃ (i : Nat) (y : V), xs[i]? = some y ∧ ys = xs ++ [y]) → Q (.ref a) H'
theorem RowsAt.dbl {H : Hp} {xs ys : List V} {rs : List (List Int)} (r : RowsAt H xs rs) (h : ys = xs ∨ ∃ (i : Nat) (y : V), xs[i]? = some y ∧ ys = xs ++ [y]) : ∃ rs', RowsAt H ys rs' ∧ (rs' = rs ∨ ∃ (i : Nat) (x : List Int), rs[i]? = some x ∧ rs' = rs ++ [x]) := by
  rcases h with rfl | ⟨i, y, e, rfl⟩
  · exact ⟨rs, r, .inl rfl⟩
  · obtain ⟨x, ex, f⟩ := Paired.get1 r e
    exact ⟨rs ++ [x], r.snoc f, .inr ⟨i, x, ex, rfl⟩⟩
def spSystem : Sp := fun vs H Q _ => ∃ (b c : Addr) (cs : List Int) (m : Nat), vs = [.ref b, .int m] ∧ m ≤ 1000 ∧ BagAt b c cs H ∧ ∀ H' v n bs ps, Off b H H' → BagAt b c cs H' → SysAt H' v n bs ps → OkB n bs → OkP n ps → n ≤ 1000 → bs.length ≤ 3000 → ps.length ≤ 3000 → Q v H'
theorem OkB.nil (n : Nat) : OkB n [] := fun _ h => nomatch h
theorem OkP.nil (n : Nat) : OkP n [] := fun _ h => nomatch h
theorem OkB.snoc {n : Nat} {bs : List (List Int)} {i : Nat} {r : List Int} (h : OkB n bs) (e : bs[i]? = some r) : OkB n (bs ++ [r]) := fun x hx => by
  rcases List.mem_append.mp hx with hx | hx
  · exact h x hx
  · rw [List.mem_singleton.mp hx]; exact h r (List.mem_of_getElem? e)
theorem OkB.dbl {n : Nat} {bs bs' : List (List Int)} (h : OkB n bs) (e : bs' = bs ∨ ∃ (i : Nat) (x : List Int), bs[i]? = some x ∧ bs' = bs ++ [x]) : OkB n bs' ∧ bs'.length ≤ bs.length + 1 := by
  rcases e with rfl | ⟨i, x, ex, rfl⟩
  · exact ⟨h, by omega⟩
  · exact ⟨h.snoc ex, by simp⟩
theorem OkP.snoc {n : Nat} {bs : List (List Int)} {i : Nat} {r : List Int} (h : OkP n bs) (e : bs[i]? = some r) : OkP n (bs ++ [r]) := fun x hx => by
  rcases List.mem_append.mp hx with hx | hx
  · exact h x hx
  · rw [List.mem_singleton.mp hx]; exact h r (List.mem_of_getElem? e)
theorem OkP.dbl {n : Nat} {bs bs' : List (List Int)} (h : OkP n bs) (e : bs' = bs ∨ ∃ (i : Nat) (x : List Int), bs[i]? = some x ∧ bs' = bs ++ [x]) : OkP n bs' ∧ bs'.length ≤ bs.length + 1 := by
  rcases e with rfl | ⟨i, x, ex, rfl⟩
  · exact ⟨h, by omega⟩
  · exact ⟨h.snoc ex, by simp⟩
section
variable {X : Cx} (K : PySem.W.Frag)
def rListD : List V → Hp → VK → Prop := fun xs H Q => ∃ p ys, xs = [.ref p] ∧ (SqL K H p ys ∨ SqT K H p ys) ∧ ∀ l, H l = none → Q (.ref l) (upd H l (.lst ys))
def rTupleD : List V → Hp → VK → Prop := fun xs H Q => ∃ p ys, xs = [.ref p] ∧ ((SqL K H p ys ∧ ∀ l, H l = none → Q (.ref l) (upd H l (.tup ys))) ∨ (SqT K H p ys ∧ Q (.ref p) H))
theorem dList (hK : X.K = K := by rfl) : CallR X (.type "list") (rListD K) := by subst hK; exact call_list_of
theorem dTuple (hK : X.K = K := by rfl) : CallR X (.type "tuple") (rTupleD K) := by subst hK; exact call_tuple_of
variable {K} {Q : VK} {H : Hp} {te : TE} {σ : L2.St}
theorem rv_listL {p : Addr} {ys : List V} (h : SqL K H p ys) (q : ∀ l, H l = none → Q (.ref l) (upd H l (.lst ys))) : rListD K [.ref p] H Q := ⟨p, ys, rfl, .inl h, q⟩
theorem rv_listT {p : Addr} {ys : List V} (h : SqT K H p ys) (q : ∀ l, H l = none → Q (.ref l) (upd H l (.lst ys))) : rListD K [.ref p] H Q := ⟨p, ys, rfl, .inr h, q⟩
theorem rv_tupL {p : Addr} {ys : List V} (h : SqL K H p ys) (q : ∀ l, H l = none → Q (.ref l) (upd H l (.tup ys))) : rTupleD K [.ref p] H Q := ⟨p, ys, rfl, .inl ⟨h, q⟩⟩
theorem rv_tupT {p : Addr} {ys : List V} (h : SqT K H p ys) (q : Q (.ref p) H) : rTupleD K [.ref p] H Q := ⟨p, ys, rfl, .inr ⟨h, q⟩⟩
theorem rd_iTup {R : It → Hp → Prop} (q : te σ H fun x H1 => ∃ a, x = .ref a ∧ (∃ xs, SqT K H1 a xs) ∧ R (Itt K a) H1) : iTup K te σ H R := q
theorem rv_iT {a : Addr} {xs : List V} {R : Addr → Prop} (h : SqT K H a xs) (q : R a) : ∃ a', V.ref a = .ref a' ∧ (∃ xs, SqT K H a' xs) ∧ R a' := ⟨a, rfl, ⟨xs, h⟩, q⟩
end
end D0
namespace D0
open PySem PySem.Spec PyProof.Rows L2
section
variable {K : PySem.W.Frag} {σ : L2.St} {H : Hp} {Q : VK} {te tl : TE} {ta : TA} {vs : List Nat} {j : Nat} {g : TG} {tt : TT}
theorem Tn.same {H H' : Hp} {v : V} {ns : List Int} (x : Tn H v ns) (t : Same H H') : Tn H' v ns := x.ts (.of_same t)
/-- a comprehension over a tuple of rows -/
theorem lc_rows {a : Addr} {xs : List V} {rs : List (List Int)} (f : V → List Int → V) (kp : List Int → Bool) (hl : ∀ Qe : VK, Qe (.ref a) H → tl σ H Qe) (hs : H a = some (.tup xs)) (hr : RowsAt H xs rs) (hz : xs.length ≤ 100000)
    (he : ∀ (x : V) (r : List Int) (H' : Hp) (Nx : VK) (E : Hp → Prop), r ∈ rs → Same H H' → Tn H' x r → (kp r = true → ∀ H'', Same H' H'' → Nx (f x r) H'') → (kp r = false → ∀ H'', Same H' H'' → E H'') →
      g x (wipe σ vs) H' fun σ2 H2 => wipe σ2 vs = wipe σ vs ∧ tt σ2 H2 fun b H3 => if b = true then te σ2 H3 Nx else E H3)
    (q : ∀ D H', H D = none → Same H H' → H' D = some (.lst (((xs.zip rs).filter fun p => kp p.2).map fun p => f p.1 p.2)) → Q (.ref D) H') : tLc (iTup K tl) g tt te vs σ H Q := by
  have hln := Paired.len hr
  refine hl _ ⟨a, rfl, ⟨_, SqT.of hs⟩, fun D hD => ?_⟩
  refine lc_tup (K := K) (a := a) (xs := xs) (fun i H' => Same H H' ∧ H' D = some (.lst ((((xs.zip rs).take i).filter fun p => kp p.2).map fun p => f p.1 p.2))) ⟨same_upd hD, upd_same⟩ (fun i H' _ h => SqT.of (h.1 _ _ hs)) ?_ ?_
  · rintro i x H' hx ⟨s, e⟩
    obtain ⟨r, er, hxr⟩ := Paired.get1 hr hx
    have ez : (xs.zip rs)[i]? = some (x, r) := by rw [List.getElem?_zip_eq_some]; exact ⟨hx, er⟩
    refine he x r H' _ _ (List.mem_of_getElem? er) s (hxr.same s) (fun hk H'' s2 => ?_) (fun hk H'' s2 => ?_)
    · refine ⟨_, s2 _ _ e, ?_, ?_, ?_⟩
      · have h1 := List.length_filter_le (fun p : V × List Int => kp p.2) ((xs.zip rs).take i)
        rw [List.length_map]
        have h2 : ((xs.zip rs).take i).length ≤ xs.length := by rw [List.length_take, List.length_zip]; omega
        exact sz4' (by
          have : i < xs.length := (List.getElem?_eq_some_iff.mp hx).1
          have : ((xs.zip rs).take i).length ≤ i := by rw [List.length_take]; omega
          omega)
      · intro b o eb
        rw [upd_ne (ne_of_none eb hD)]
        exact s2 _ _ (s _ _ eb)
      · rw [upd_same, List.take_add_one, ez, List.filter_append, List.map_append]
        simp [hk]
    · refine ⟨s.trans s2, ?_⟩
      rw [List.take_add_one, ez, List.filter_append, List.map_append]
      simp [hk, s2 _ _ e]
  · rintro H' ⟨s, e⟩
    rw [List.take_of_length_le (by rw [List.length_zip]; omega)] at e
    exact q D H' hD s e
theorem zsnd {α β γ : Type} (f : β → γ) : ∀ (xs : List α) (ys : List β), xs.length = ys.length → (xs.zip ys).map (fun p => f p.2) = ys.map f
  | [], [], _ => rfl
  | _ :: xs, _ :: ys, h => by
    rw [List.zip_cons_cons, List.map_cons, List.map_cons, zsnd f xs ys (Nat.succ.inj h)]
theorem zflen {α β : Type} (kp : β → Bool) : ∀ (xs : List α) (ys : List β), xs.length = ys.length → ((xs.zip ys).filter fun p => kp p.2).length = (ys.filter kp).length
  | [], [], _ => rfl
  | _ :: xs, y :: ys, h => by
    rw [List.zip_cons_cons, List.filter_cons, List.filter_cons]
    cases e : kp y <;> simp [zflen kp xs ys (Nat.succ.inj h)]
theorem ftrue {α : Type} (l : List α) : l.filter (fun _ => true) = l := List.filter_eq_self.mpr fun _ _ => rfl
def hat (hs : List Int) (i : Int) : Int := hs.getD i.toNat 0
def kb (hs r : List Int) : Bool := decide (r.getD 2 0 ≤ hat hs (r.getD 1 0) - hat hs (r.getD 0 0))
def ct (hs r : List Int) : Int := r.getD 3 0 * (if hat hs (r.getD 1 0) - hat hs (r.getD 0 0) - r.getD 2 0 < 0 then -(hat hs (r.getD 1 0) - hat hs (r.getD 0 0) - r.getD 2 0) else hat hs (r.getD 1 0) - hat hs (r.getD 0 0) - r.getD 2 0)
theorem rep_map (n : Nat) (k : Int) (h : k = (n : Int)) : (List.replicate k.toNat [V.int 0]).flatten = (List.replicate n (0 : Int)).map V.int := by
  subst h
  rw [Int.toNat_natCast]
  induction n with
  | zero => rfl
  | succ n ih => rw [List.replicate_succ, List.flatten_cons, ih, List.replicate_succ, List.map_cons]; rfl
def spKeeps : Sp := fun vs H Q _ => ∃ (v : V) (t : Addr) (n : Nat) (bs ps : List (List Int)) (hs : List Int), vs = [v, .ref t] ∧ SysAt H v n bs ps ∧ OkB n bs ∧ bs.length ≤ 4000 ∧ H t = some (.tup (hs.map V.int)) ∧ hs.length = n ∧ ∀ H', Same H H' → Q (.bl (bs.all (kb hs))) H'
def spCost : Sp := fun vs H Q _ => ∃ (v : V) (t : Addr) (n : Nat) (bs ps : List (List Int)) (hs : List Int), vs = [v, .ref t] ∧ SysAt H v n bs ps ∧ OkP n ps ∧ ps.length ≤ 4000 ∧ H t = some (.tup (hs.map V.int)) ∧ hs.length = n ∧ ∀ H', Same H H' → Q (.int (ps.map (ct hs)).sum) H'
def spBroken : Sp := fun vs H Q _ => ∃ (v : V) (t : Addr) (n : Nat) (bs ps : List (List Int)) (hs : List Int), vs = [v, .ref t] ∧ SysAt H v n bs ps ∧ OkB n bs ∧ bs.length ≤ 4000 ∧ H t = some (.lst (hs.map V.int)) ∧ hs.length = n ∧ ∀ H', Same H H' → Q (.int ((bs.filter fun r => !kb hs r).length : Int)) H'
def spSpent : Sp := fun vs H Q _ => ∃ (v : V) (t : Addr) (n : Nat) (bs ps : List (List Int)) (hs : List Int), vs = [v, .ref t] ∧ SysAt H v n bs ps ∧ OkP n ps ∧ ps.length ≤ 4000 ∧ H t = some (.lst (hs.map V.int)) ∧ hs.length = n ∧ Q (.int (ps.map (ct hs)).sum) H
def spClimbed : Sp := fun vs H Q _ => ∃ (v : V) (t : Addr) (n : Nat) (bs ps : List (List Int)) (hs : List Int), vs = [v, .ref t] ∧ SysAt H v n bs ps ∧ OkB n bs ∧ bs.length ≤ 4000 ∧ n ≤ 1000 ∧ H t = some (.lst (hs.map V.int)) ∧ hs.length = n ∧
  ∀ H' r, Same H H' → (r = .non ∨ ∃ (u : Addr) (hs' : List Int), r = .ref u ∧ H' u = some (.tup (hs'.map V.int)) ∧ hs'.length = n) → Q r H'
def spSigned : Sp := fun vs H Q _ => ∃ (b c : Addr) (cs : List Int) (m : Int), vs = [.ref b, .int m] ∧ 0 < m ∧ m < 2 ^ 1000 ∧ BagAt b c cs H ∧ ∀ H' (r : Int), Off b H H' → BagAt b c cs H' → Q (.int r) H'
def spTall : Sp := fun vs H Q _ => ∃ (b c : Addr) (cs : List Int) (v : V) (n : Nat) (bs ps : List (List Int)), vs = [.ref b, v] ∧ SysAt H v n bs ps ∧ OkB n bs ∧ bs.length ≤ 4000 ∧ n ≤ 1000 ∧ BagAt b c cs H ∧ ∀ H' l (hs : List Int), Off b H H' → BagAt b c cs H' → H' l = some (.lst (hs.map V.int)) → hs.length = n → l ≠ b → Q (.ref l) H'
def spBeside : Sp := fun vs H Q _ => ∃ (b c : Addr) (cs : List Int) (t : Addr) (hs : List Int), vs = [.ref b, .ref t] ∧ H t = some (.lst (hs.map V.int)) ∧ t ≠ b ∧ hs.length ≤ 1000 ∧ BagAt b c cs H ∧ ∀ H' l (hs' : List Int), Off b H H' → BagAt b c cs H' → H' l = some (.lst (hs'.map V.int)) → hs'.length = hs.length → l ≠ b → Q (.ref l) H'
theorem at_hat {hs : List Int} {n : Nat} {i : Int} (hl : hs.length = n) (h0 : 0 ≤ i) (h1 : i < n) : atI (hs.map V.int) i = some (.int (hat hs i)) := at_ints h0 (by rw [List.length_map, hl]; exact h1)
theorem setm_int (hs : List Int) (j : Nat) (x : Int) : (hs.map V.int).set j (.int x) = (hs.set j x).map V.int := by rw [List.map_set]
theorem ints_of : ∀ {ys : List V}, (∀ y ∈ ys, ∃ i : Int, y = .int i) → ∃ hs : List Int, ys = hs.map V.int
  | [], _ => ⟨[], rfl⟩
  | y :: r, h => by
    obtain ⟨hs, rfl⟩ := ints_of fun y hy => h y (List.mem_cons_of_mem _ hy)
    obtain ⟨i, rfl⟩ := h y (List.mem_cons_self ..)
    exact ⟨i :: hs, rfl⟩
def rIsN : R2 := fun x y H Q => y = .non ∧ Q (.bl (decide (x = .non))) H
def rNotN : R2 := fun x y H Q => y = .non ∧ Q (.bl (!decide (x = .non))) H
theorem dIsN {X : Cx} : OpR X (compareOp .Is) rIsN := op_isN
theorem dNotN {X : Cx} : OpR X (compareOp .IsNot) rNotN := op_notN
theorem rv_isNn (q : Q (.bl true) H) : rIsN .non .non H Q := ⟨rfl, q⟩
theorem rv_isNr {a : Addr} (q : Q (.bl false) H) : rIsN (.ref a) .non H Q := ⟨rfl, q⟩
theorem rv_isNi {a : Int} (q : Q (.bl false) H) : rIsN (.int a) .non H Q := ⟨rfl, q⟩
theorem rv_notNn (q : Q (.bl false) H) : rNotN .non .non H Q := ⟨rfl, q⟩
theorem rv_notNr {a : Addr} (q : Q (.bl true) H) : rNotN (.ref a) .non H Q := ⟨rfl, q⟩
theorem rv_notNi {a : Int} (q : Q (.bl true) H) : rNotN (.int a) .non H Q := ⟨rfl, q⟩
end
end D0
namespace D0
open PySem PySem.Spec PyProof.Rows L2
def scalV : V → Bool
  | .non => true
  | .bl _ => true
  | .int _ => true
  | .str _ => true
  | _ => false
/-- two values that hold the same data, nested at most n deep -/
def SameV (H : Hp) : Nat → V → V → Prop
  | 0, x, y => x = y ∧ scalV x = true
  | n + 1, x, y => (x = y ∧ scalV x = true) ∨ ∃ (a b : Addr) (xs ys : List V), x = .ref a ∧ y = .ref b ∧ xs.length ≤ 100000 ∧ ((H a = some (.tup xs) ∧ H b = some (.tup ys)) ∨ (H a = some (.lst xs) ∧ H b = some (.lst ys))) ∧ Paired (SameV H n) xs ys
theorem SameV.same {H H' : Hp} (s : Same H H') : ∀ (n : Nat) (x y : V), SameV H n x y → SameV H' n x y
  | 0, _, _, h => h
  | n + 1, x, y, h => by
    rcases h with h | ⟨a, b, xs, ys, e1, e2, l, h, p⟩
    · exact .inl h
    · refine .inr ⟨a, b, xs, ys, e1, e2, l, ?_, Paired.mapP p fun u v => SameV.same s n u v⟩
      rcases h with ⟨h1, h2⟩ | ⟨h1, h2⟩
      · exact .inl ⟨s _ _ h1, s _ _ h2⟩
      · exact .inr ⟨s _ _ h1, s _ _ h2⟩
def spSame (n : Nat) : Sp := fun vs H Q _ => ∃ x y : V, vs = [x, y] ∧ SameV H n x y ∧ ∀ H', Same H H' → Q (.bl true) H'
def spShuffle (K : PySem.W.Frag) : Sp := fun vs H Q _ => ∃ (b c : Addr) (cs : List Int) (t : Addr) (xs : List V), vs = [.ref b, .ref t] ∧ (SqL K H t xs ∨ SqT K H t xs) ∧ t ≠ b ∧ xs.length ≤ 1000 ∧ BagAt b c cs H ∧ ∀ H' l ys, Off b H H' → BagAt b c cs H' → H' l = some (.lst ys) → l ≠ b → l ≠ c → H l = none → ys.Perm xs → Q (.ref l) H'
section
variable {K : PySem.W.Frag} {Q : VK} {H : Hp}
theorem rv_isNb {b : Bool} (q : Q (.bl false) H) : rIsN (.bl b) .non H Q := ⟨rfl, q⟩
theorem rv_isNs {b : Str} (q : Q (.bl false) H) : rIsN (.str b) .non H Q := ⟨rfl, q⟩
end
end D0
namespace ET
open PySem AutoSeq1
theorem newE (tu : Addr) (xs : Array Value) (k : Nat) (dd : Option Addr) (ss : Array (Option Value)) :
    Meets (Builtin.«enumerate.__new__» ⟨[.type "enumerate", .ref tu], []⟩) (fun _ R z => z.heap.get? tu = some { cls := .type "tuple", dict := dd, data := .seq xs k, slots := ss } ∧
      R (.ok (.ret (.ref (z.heap.push { cls := .type "tuple_iterator", data := .fields #[.ref tu, .int 0 0] }).objs.size)))
        { z with heap := (z.heap.push { cls := .type "tuple_iterator", data := .fields #[.ref tu, .int 0 0] }).push { cls := .type "enumerate", data := .fields #[.none, .bool false, .ref z.heap.objs.size, rawInt 0, .none, .none] } }) :=
  .of_wp fun prog w A R z h => by
    obtain ⟨hp, gg, dr, tk, os⟩ := z; obtain ⟨ht, h⟩ := h
    have hsb := sub_enumerate
    have hT : Heap.IsTuple (Shared.heap ⟨hp, gg, dr, tk, os⟩) tu xs := ⟨_, ht, rfl, k, rfl⟩
    wp_walk using wpAny_loadPart' ht
    refine wpAny_stack_any fun _ => wpAny_pure ?_
    split
    · rename_i c _ _ _ _ _
      cases (c == Value.type "enumerate")
      · wp_walk using wpAny_loadPart' ht, wpAny_pyIter_tuple hT; exact ⟨_, rfl, h⟩
      · wp_walk using wpAny_loadPart' ht, wpAny_pyIter_tuple hT; exact ⟨_, rfl, h⟩
    · wp_walk using wpAny_loadPart' ht, wpAny_pyIter_tuple hT; exact ⟨_, rfl, h⟩
section
variable {prog : Program} {w : World} {A : Around} {E : Value → Shared → Prop} {z : Shared}
theorem callE {tu : Addr} {xs : Array Value} {Q : Value → Shared → Prop} (hT : z.heap.IsTuple tu xs)
    (h : ∀ g, IsEnum g (z.heap.objs.size + 1) z.heap.objs.size 0 .none → g.IsTupleIter z.heap.objs.size tu 0 → g.objs.size = z.heap.objs.size + 2 →
      (∀ b o, z.heap.get? b = some o → g.get? b = some o) → Q (.ref (z.heap.objs.size + 1)) { z with heap := g }) :
    wpAny (model prog w) A (call (.type "enumerate") [.ref tu]) Q E z := by
  obtain ⟨⟨c, dd, dt, ss⟩, ht, hc, k, hd⟩ := hT
  replace hc : c = .type "tuple" := hc
  replace hd : dt = .seq xs k := hd
  subst hc hd
  refine callType_new F.called_enumerate (by decide) (F.typeCall_enumerate_1 _) (F.newCall_enumerate_1 _) (fun ob => F.args_object_init_2 ob _) F.entry_enumerate_new (newE tu xs k dd ss) ⟨ht, ?_⟩
  have hz : (z.heap.push { cls := .type "tuple_iterator", data := .fields #[.ref tu, .int 0 0] }).objs.size = z.heap.objs.size + 1 := Heap.size_push ..
  show _ ∧ _
  rw [hz]
  have en : IsEnum ((z.heap.push { cls := .type "tuple_iterator", data := .fields #[.ref tu, .int 0 0] }).push
      { cls := .type "enumerate", data := .fields #[.none, .bool false, .ref z.heap.objs.size, rawInt 0, .none, .none] }) (z.heap.objs.size + 1) z.heap.objs.size 0 .none := by
    have y := Heap.get?_push_size (z.heap.push { cls := .type "tuple_iterator", data := .fields #[.ref tu, .int 0 0] }) (o := { cls := .type "enumerate", data := .fields #[.none, .bool false, .ref z.heap.objs.size, rawInt 0, .none, .none] }) rfl
    rw [hz] at y; exact y
  exact ⟨⟨_, en, rfl⟩, h _ en ⟨_, Heap.get?_push_of_some _ (Heap.get?_push_size _ rfl), rfl, rfl⟩ (by rw [Heap.size_push, hz]) fun b o y => Heap.get?_push_of_some _ (Heap.get?_push_of_some _ y)⟩
theorem nextT {zi tu : Addr} {i : Nat} {xs : Array Value} {x : Value} {Q : Value → Shared → Prop} (ti : z.heap.IsTupleIter zi tu i) (tt : z.heap.IsTuple tu xs) (hx : xs[i]? = some x)
    (hQ : ∀ g, g.IsTupleIter zi tu (i + 1) → Heap.SameBut zi z.heap g → Q x { z with heap := g }) : wpAny (model prog w) A (Builtin.SmallTypes.nextOf (.ref zi)) Q E z := by
  obtain ⟨oi, hoi, hci, hdi⟩ := id ti
  obtain ⟨ot, hot, _, nt, hdt⟩ := tt
  unfold Builtin.SmallTypes.nextOf
  refine wpAny_bind (wpAny_callSpecial?_slot (name := Str.ofString "__next__") ti.typeIs F.slot_tuple_iterator_next (wpAny_call_entry F.slot_tuple_iterator_next ti.typeIs F.entry_tuple_iterator_next ?_ (F.args_tuple_iterator_next_1 _)))
  show wpAny _ _ (field (.ref zi) 0 >>= _) _ _ z
  refine wpAny_bind (wpAny_field hoi hdi (x := .ref tu) rfl ?_)
  show wpAny _ _ (if (Value.ref tu == Value.none) = true then _ else _) _ _ z
  rw [if_neg (show ¬ ((Value.ref tu == Value.none) = true) from Bool.false_ne_true)]
  show wpAny _ _ (field (.ref zi) 1 >>= _) _ _ z
  refine wpAny_bind (wpAny_field hoi hdi (x := .int i 0) rfl ?_)
  show wpAny _ _ (seqItems? (.ref tu) >>= _) _ _ z
  refine wpAny_bind (wpAny_seqItems hot hdt ?_)
  simp only [Int.toNat_natCast, hx]
  refine wpAny_bind (wpAny_setField hoi hdi (by simp) (wpAny_pure ⟨x, rfl, wpAny_pure (hQ _ ?_ (Heap.SameBut.update ..))⟩))
  exact ⟨_, Heap.get?_update_self _ hoi (Obj.isFreed_of_fields (Obj.data_mapFields hdi _)), (Obj.cls_mapFields ..).trans hci, by rw [Obj.data_mapFields hdi]; simp [rawInt]⟩
theorem nextTE {zi tu : Addr} {i : Nat} {xs : Array Value} {Q : Value → Shared → Prop} (hh : A.handled = none) (ti : z.heap.IsTupleIter zi tu i) (tt : z.heap.IsTuple tu xs) (hx : xs[i]? = none)
    (hE : ∀ g x, Heap.ExtBut zi z.heap g → (∃ o, g.get? x = some o ∧ o.cls = .type "StopIteration") → E (.ref x) { z with heap := g }) : wpAny (model prog w) A (Builtin.SmallTypes.nextOf (.ref zi)) Q E z := by
  obtain ⟨oi, hoi, hci, hdi⟩ := id ti
  obtain ⟨ot, hot, _, nt, hdt⟩ := tt
  unfold Builtin.SmallTypes.nextOf
  refine wpAny_bind (wpAny_callSpecial?_slot (name := Str.ofString "__next__") ti.typeIs F.slot_tuple_iterator_next (wpAny_call_entry F.slot_tuple_iterator_next ti.typeIs F.entry_tuple_iterator_next ?_ (F.args_tuple_iterator_next_1 _)))
  show wpAny _ _ (field (.ref zi) 0 >>= _) _ _ z
  refine wpAny_bind (wpAny_field hoi hdi (x := .ref tu) rfl ?_)
  show wpAny _ _ (if (Value.ref tu == Value.none) = true then _ else _) _ _ z
  rw [if_neg (show ¬ ((Value.ref tu == Value.none) = true) from Bool.false_ne_true)]
  show wpAny _ _ (field (.ref zi) 1 >>= _) _ _ z
  refine wpAny_bind (wpAny_field hoi hdi (x := .int i 0) rfl ?_)
  show wpAny _ _ (seqItems? (.ref tu) >>= _) _ _ z
  refine wpAny_bind (wpAny_seqItems hot hdt ?_)
  simp only [Int.toNat_natCast, hx]
  refine wpAny_bind (wpAny_rule (wpAny_bind (wpAny_setField hoi hdi (by simp) ?_)))
  show wpAny _ _ (newExc (.type "StopIteration") [] >>= fun _ => _) _ _ _
  refine wpAny_bind ?_
  simp only [newExc, newTuple]
  refine wpAny_bind (wpAny_newObj_type ?_ (by size_fits)); refine wpAny_bind (m := firstArgMember _ _) (wpAny_of_eq (a := Value.none) (by first | rfl | (simp only [firstArgMember]; rfl)) ?_)
  refine wpAny_newObj_type ?_ (by size_fits); simp only [raiseNew]
  refine wpAny_bind (wpAny_handled ?_); first | rw [show A.in1.handled = none from hh] | rw [hh]
  refine wpAny_bind (wpAny_pure (wpAny_throw ?_)); exact hE _ _ (((Heap.SameBut.update ..).extBut.push _).push _) ⟨_, Heap.get?_push_size _ rfl, rfl⟩
end
theorem drawsT {prog : Program} {w : World} {A : Around} (hh : A.handled = none) (zi tu : Addr) (xs : Array Value) (hne : zi ≠ tu) :
    Draws prog w A.in1 zi [zi, tu] xs.size (fun i x => xs[i]? = some x) (fun i h => h.IsTupleIter zi tu i ∧ h.IsTuple tu xs) where
  live := fun i h st => let ⟨⟨o, ho, _⟩, _⟩ := st; ⟨o, ho⟩
  frame := fun i h h' st k => ⟨st.1.at fun o q => k zi (by simp) o q, by
    obtain ⟨o, ho, r⟩ := st.2
    exact ⟨o, k tu (by simp) o ho, r⟩⟩
  item := fun i z Q E hi st hQ => by
    obtain ⟨x, hx⟩ : ∃ x, xs[i]? = some x := ⟨xs[i], by simp [hi]⟩
    refine nextT st.1 st.2 hx fun g hg sb => ?_
    obtain ⟨o, ho, r⟩ := st.2
    exact hQ x g z.toks hx ⟨hg, ⟨o, (sb.2 tu (Ne.symm hne)).trans ho, r⟩⟩ sb
  done := fun z Q E st hE => nextTE hh st.1 st.2 (by simp) hE
end ET
namespace D0
open PySem PySem.Spec PyProof.Rows L2
/-- the tuple at a, each item in a new pair -/
def Itet (K : PySem.W.Frag) (a : Addr) : It :=
  ⟨fun i H => ∃ (xs : List V) (x : V), SqT K H a xs ∧ xs[i]? = some x, fun i H v H' => ∃ T x, v = .ref T ∧ H T = none ∧ H' = upd H T (.tup [.int (i : Nat), x]) ∧ ∀ xs, SqT K H a xs → xs[i]? = some x, fun i H => ∃ xs : List V, SqT K H a xs ∧ xs.length ≤ i⟩
theorem turn_enumT {P : Program} {w : World} {K : PySem.W.Frag} {elts : List Expr} {kk : Nat} {tpos : Pos} (a e zi : Addr) :
    Turn P w K (.Tuple elts kk tpos) (Itet K a) [e, zi] e (fun i h => (∃ old, IsEnum h e zi ((i : Nat) : Int) old) ∧ h.IsTupleIter zi a i ∧ e ≠ zi) where
  mem := by simp
  obj := fun i h st b hb => by
    obtain ⟨⟨old, en⟩, ⟨o, ho, hc, hd⟩, _⟩ := st
    rcases (show b = e ∨ b = zi by simpa using hb) with y | y
    · rw [y]; exact ⟨_, en, fun v q => nomatch q⟩
    · rw [y]; exact ⟨o, ho, fun v q => by rw [hd] at q; cases q⟩
  keep := fun i h h' st k => let ⟨⟨old, en⟩, hi, hn⟩ := st; ⟨⟨old, k e (by simp) _ en⟩, hi.at fun o q => k zi (by simp) o q, hn⟩
  item := by
    intro X hP hw hK hc i pins s σ H E I hf st hg
    subst hP hw hK
    obtain ⟨⟨old, en⟩, ti, hn⟩ := st
    obtain ⟨xs, x, hq, hx⟩ := hg
    obtain ⟨its, rv, p, hz⟩ := I.tuple hq
    have tt : s.heap.IsTuple a its.toArray := p
    obtain ⟨u, hu, ru⟩ := rv.get hx
    have hza : zi ≠ a := by
      rintro rfl
      obtain ⟨o, ho, c1, _⟩ := ti
      obtain ⟨o', ho', c2, _⟩ := tt
      rw [ho] at ho'; cases ho'
      rw [c1] at c2
      exact absurd c2 (by decide)
    have hea : e ≠ a := by
      rintro rfl
      obtain ⟨o', ho', c2, _⟩ := tt
      rw [en] at ho'; cases ho'
      exact absurd (show Value.type "enumerate" = Value.type "tuple" from c2) (by decide)
    have lt : i < its.toArray.size := by
      have := (List.getElem?_eq_some_iff.mp hu).1
      simpa using this
    have hel : e < s.heap.objs.size := Heap.lt_size en
    have hil : zi < s.heap.objs.size := by obtain ⟨_, q, _⟩ := ti; exact Heap.lt_size q
    refine wpAny_pyNext_enum_itemD (ET.drawsT (I.ok.hd hc) zi a its.toArray hza) en ⟨ti, tt⟩ lt hn (by simp [hn, hea]) fun y h' tk hy ho st' hT hsz hk => ?_
    have ey : y = u := by
      have h1 : its[i]? = some y := by simpa using hy
      rw [hu] at h1; exact (Option.some.inj h1).symm
    subst ey
    refine ⟨_, rfl, wpAny_letOwnedTupleGo_enum (s := { s with heap := h', toks := tk + 1 }) ho fun h2 en2 sb => ?_⟩
    have hT2 : h2.get? s.heap.objs.size = some { cls := .type "tuple", data := .seq #[.int i tk, y] } := (sb.2 _ (Nat.ne_of_gt hel)).trans hT
    have new : ObjOk X.prog X.w (upd H s.heap.objs.size (.tup [.int (i : Nat), x])) h2 s.heap.objs.size (.tup [.int (i : Nat), x]) := ⟨by show 2 ≤ sizeLine; decide, [.int i tk, y], .cons ⟨_, rfl⟩ (.cons ru .nil), ⟨_, hT2, rfl, _, rfl⟩⟩
    have I1 : Inv X pins σ (upd H s.heap.objs.size (.tup [.int (i : Nat), x])) { s with heap := h2, toks := tk + 1 } :=
      I.turnedNew (ch := [e, zi]) (fun b ob hb q => (sb.2 b (fun y => hb (by simp [y]))).trans (hk b ob (fun y => hb (by simp [y])) (fun y => hb (by simp [y])) q)) hf (Nat.le_refl _) new
    refine ⟨.ref s.heap.objs.size, _, I1, rfl, ⟨_, x, rfl, I.hok.fresh (Nat.le_refl _), rfl, fun ys hy => by rw [I.tuple_inj hy hq]; exact hx⟩, ⟨⟨y, ?_⟩, st'.1.at fun o q => (sb.2 zi (Ne.symm hn)).trans q, hn⟩, fun b hb => ?_⟩
    · rw [show ((i + 1 : Nat) : Int) = (i : Int) + 1 by omega]; exact en2
    · have lb : b < s.heap.objs.size := by
        rcases (show b = e ∨ b = zi by simpa using hb) with y | y
        · rw [y]; exact hel
        · rw [y]; exact hil
      rw [upd_ne (Nat.ne_of_lt lb)]
      exact (hf b hb).1
  done := by
    intro X hP hw hK hc i pins s σ H E I hf st hg
    subst hP hw hK
    obtain ⟨⟨old, en⟩, ti, hn⟩ := st
    obtain ⟨xs, hq, hx⟩ := hg
    obtain ⟨its, rv, p, hz⟩ := I.tuple hq
    have tt : s.heap.IsTuple a its.toArray := p
    obtain ⟨f0, f1, f2, f3, f4, f5⟩ := hf zi (by simp)
    have hl := rv.length
    have hT : s.TypeIs (.ref e) "enumerate" := ⟨_, en, rfl⟩
    unfold pyNext
    refine wpAny_bind (wpAny_attempt (wpAny_callSpecial?_slot (name := Str.ofString "__next__") hT F.slot_enumerate_next (wpAny_call_entry F.slot_enumerate_next hT F.entry_enumerate_next ?_ (F.args_enumerate_next_1 _))))
    show wpAny _ _ (field (.ref e) 2 >>= fun _ => _) _ _ _
    refine wpAny_bind (wpAny_field en rfl (x := .ref zi) rfl ?_)
    refine wpAny_bind (ET.nextTE (A := X.A.in1) (I.ok.hd hc) ti tt (by simp; omega) fun h' x eb hx' => ?_)
    obtain ⟨o, ho, hco⟩ := hx'
    refine wpAny_bind (wpAny_isInstance (T := "StopIteration") (b := true) ⟨o, ho, hco⟩ isSubtype_stop ?_)
    exact wpAny_pure ⟨rfl, I.turned (t' := s.toks) (fun b o hb q => eb b o hb q) f0 f1 f3 f4 f5⟩
  self := fun A i s Q E st h => let ⟨⟨_, en⟩, _⟩ := st; wpAny_pyIter_enum en h
def iEnumT (K : PySem.W.Frag) (ta : TA) : TI := fun σ H R => ta σ H fun vs H1 => ∃ a xs, vs = [.ref a] ∧ SqT K H1 a xs ∧ R (Itet K a) H1
theorem dpi_enumT {X : Cx} (K : PySem.W.Frag) {e : Expr} {ta : TA} {p pos tpos : Pos} {elts : List Expr} {kk : Nat} (hg : Gl X "enumerate") (hm : X.mg "enumerate" = none) (ha : PA X [e] ta) (hK : X.K = K := by rfl) (hs : starEach [e] X.env = [(false, eval e X.env)] := by rfl) :
    PI X (.Tuple elts kk tpos) (.Call (.Name "enumerate" p) [e] [] pos) (iEnumT K ta) := by
  subst hK
  refine ⟨fun pins s σ H R I h => ?_⟩
  refine Call_ (ld_blt I hg hm boot_enumerate (PyProof.Rows.callWith_type1 (thn (ha.run pos pins s σ H _ I h) fun us s1 ⟨vs, H1, I1, r1, q1⟩ => ?_) hs rfl))
  obtain ⟨a, xs, ex, hq, q⟩ := q1
  subst ex
  cases r1 with
  | cons r rr =>
    cases rr
    cases r
    obtain ⟨its, rv, p', hz⟩ := I1.tuple hq
    refine ET.callE (show s1.heap.IsTuple a its.toArray from p') fun h' en hit hsz hk => wpAny_pyIter_enum en ?_
    have I2 : Inv X pins σ H1 { s1 with heap := h' } := I1.kept (t' := s1.toks) hk
    refine ⟨s1.heap.objs.size + 1, [s1.heap.objs.size + 1, s1.heap.objs.size], _, _, H1, rfl, I2, turn_enumT a (s1.heap.objs.size + 1) s1.heap.objs.size, ⟨⟨.none, en⟩, hit, Nat.succ_ne_self _⟩, fun b hb => ?_, q⟩
    have lb : s1.heap.objs.size ≤ b := by
      rcases (show b = s1.heap.objs.size + 1 ∨ b = s1.heap.objs.size by simpa using hb) with y | y
      · rw [y]; exact Nat.le_add_right _ _
      · rw [y]; exact Nat.le_refl _
    exact I1.fpOk lb (I1.hok.fresh lb)
end D0
namespace D0
open PySem PySem.Spec PyProof.Rows L2
theorem sqt_set {K : PySem.W.Frag} {H : Hp} {b c : Addr} {o : HO} {xs : List V} (n : c ≠ b) (e : SqT K H c xs) : SqT K (upd H b o) c xs := (Off.refl b H).set.seqT n e
theorem sqt_new {K : PySem.W.Frag} {H : Hp} {p c : Addr} {o : HO} {xs : List V} (n : H p = none) (e : SqT K H c xs) : SqT K (upd H p o) c xs := by
  rcases e with (e | ⟨u, e⟩) | e
  · exact .inl (.inl (same_upd n _ _ e))
  · exact .inl (.inr ⟨u, same_upd n _ _ e⟩)
  · exact .inr e
theorem rv_pop {l : Addr} {xs : List V} {i : Int} {k : Nat} {y : V} {H : Hp} {Q : VK} (h : H l = some (.lst xs)) (h0 : 0 ≤ i) (h1 : i < (xs.length : Int)) (h2 : xs.length ≤ 100000) (hk : k = i.toNat) (hy : xs[k]? = some y) (q : Q y (upd H l (.lst (xs.eraseIdx k)))) : rPopAt (.ref l) [.int i] H Q :=
  ⟨l, xs, i, k, y, rfl, rfl, h, by omega, by omega, by rw [hk]; exact seqIndex_of h0 h1, hy, q⟩
theorem erase_perm : ∀ (l : List V) (k : Nat) (y : V), l[k]? = some y → (y :: l.eraseIdx k).Perm l
  | [], _, _, h => by simp at h
  | x :: r, 0, y, h => by
    have e : x = y := by simpa using h
    subst e
    exact List.Perm.refl _
  | x :: r, k + 1, y, h => by
    have ih := erase_perm r k y (by simpa using h)
    rw [List.eraseIdx_cons_succ]
    exact (List.Perm.swap x y _).trans (ih.cons x)
theorem perm_take {ms rs : List V} {xs : List V} {k : Nat} {y : V} (p : (ms ++ rs).Perm xs) (hy : rs[k]? = some y) : (ms ++ [y] ++ rs.eraseIdx k).Perm xs := by
  refine List.Perm.trans ?_ p
  rw [List.append_assoc]
  exact List.Perm.append_left ms (erase_perm rs k y hy)
end D0
namespace D0
open PySem PySem.Spec PyProof.Rows L2
def rGetL (K : PySem.W.Frag) : V → V → Hp → VK → Prop := fun x y H Q => ∃ p xs i v, x = .ref p ∧ y = .int i ∧ SqL K H p xs ∧ 0 ≤ i ∧ atI xs i = some v ∧ Q v H
theorem dGetL {X : Cx} (K : PySem.W.Frag) (hK : X.K = K := by rfl) : PGet X (rGetL K) := by
  subst hK
  intro pins s σ H o i ov iv Q I ro ri h
  obtain ⟨p, xs, k, v, rfl, rfl, hq, h0, he, q⟩ := h
  cases ro
  obtain ⟨t, rfl⟩ := ri
  obtain ⟨its, r, pl, hz⟩ := I.list hq
  obtain ⟨j, h1, h2, h3, h4, h5⟩ := atI_get he
  obtain ⟨w, ew, rw'⟩ := r.get h2
  have hn := line63
  have hj : k.toNat = j := by
    rw [seqIndex_of h0 h5] at h1
    exact Option.some.inj h1
  exact wpAny_getItem_list pl.isList h0 (by omega) (by rw [hj]; simpa using ew) ⟨v, H, I, rw', q⟩
section
variable {K : PySem.W.Frag} {σ : L2.St} {H : Hp} {Q : VK} {D : Ends} {to ti te : TE} {ta : TA} {v : V}
theorem rd_augS {tget : V → V → Hp → VK → Prop} {tip : TIp} {tset : TSet} (q : to σ H fun o H1 => ti σ H1 fun i H2 => tget o i H2 fun x H3 => te σ H3 fun y H4 => tip x y H4 fun z H5 => tset o i z H5 fun H6 => D.nx σ H6) : tAugS to ti te tget tip tset D σ H := q
theorem rv_get {p : Addr} {xs : List V} {i : Int} (h : SqL K H p xs) (h0 : 0 ≤ i) (c : atI xs i = some v) (q : Q v H) : rGetL K (.ref p) (.int i) H Q := ⟨p, xs, i, v, rfl, rfl, h, h0, c, q⟩
theorem rv_ipI {f : Int → Int → Int} {i j : Int} (q : Q (.int (f i j)) H) : ipI f (.int i) (.int j) H Q := ⟨i, j, rfl, rfl, q⟩
end
theorem dpi_zipA {X : Cx} (K : PySem.W.Frag) {e e2 : Expr} {ta : TA} {p pos tpos : Pos} {elts : List Expr} {kk : Nat} (hg : Gl X "zip") (hm : X.mg "zip" = none) (ha : PA X [e, e2] ta) (hK : X.K = K := by rfl)
    (hs : starEach [e, e2] X.env = (false, eval e X.env) :: starEach [e2] X.env := by rfl) (hpl : (backTo pos (starEach [e2] X.env)).any (·.1) = false := by rfl) : PI X (.Tuple elts kk tpos) (.Call (.Name "zip" p) [e, e2] [] pos) (RZ.iZipA K ta) := by
  subst hK
  exact RZ.pi_zipA hg hm ha hs hpl
section
variable {K : PySem.W.Frag} {σ : L2.St} {H : Hp} {ta : TA}
theorem rd_zipA {R : It → Hp → Prop} (q : ta σ H fun vs H1 => ∃ a b xs ys, vs = [.ref a, .ref b] ∧ ((SqL K H1 a xs ∧ SqL K H1 b ys ∧ R (Itz K a b) H1) ∨ (SqT K H1 a xs ∧ SqT K H1 b ys ∧ R (RZ.ItzT K a b) H1))) : RZ.iZipA K ta σ H R := q
theorem rd_enumT {R : It → Hp → Prop} (q : ta σ H fun vs H1 => ∃ a xs, vs = [.ref a] ∧ SqT K H1 a xs ∧ R (Itet K a) H1) : iEnumT K ta σ H R := q
theorem rv_enumT {a : Addr} {xs : List V} {R : Addr → Prop} (h : SqT K H a xs) (q : R a) : ∃ a' xs', [V.ref a] = [.ref a'] ∧ SqT K H a' xs' ∧ R a' := ⟨a, xs, rfl, h, q⟩
end
def netAt : List (List Int) → List Int → Int → Int
  | r :: rs, f :: fs, x => netAt rs fs x + ((if r.getD 1 0 = x then f else 0) - (if r.getD 0 0 = x then f else 0))
  | _, _, _ => 0
theorem netAt_snoc : ∀ (rs : List (List Int)) (fs : List Int) (r : List Int) (f x : Int), rs.length = fs.length → netAt (rs ++ [r]) (fs ++ [f]) x = netAt rs fs x + ((if r.getD 1 0 = x then f else 0) - (if r.getD 0 0 = x then f else 0))
  | [], [], r, f, x, _ => by show (0 : Int) + _ = 0 + _; rfl
  | r' :: rs, f' :: fs, r, f, x, h => by
    show netAt (rs ++ [r]) (fs ++ [f]) x + _ = netAt rs fs x + _ + _
    rw [netAt_snoc rs fs r f x (Nat.succ.inj h)]
    omega
def netL (n : Nat) (rs : List (List Int)) (fs : List Int) : List Int := (List.range n).map fun x : Nat => netAt rs fs (x : Int)
theorem set_range (n : Nat) (g : Nat → Int) (k : Nat) (d : Int) (hk : k < n) : ((List.range n).map g).set k (g k + d) = (List.range n).map fun x => g x + (if k = x then d else 0) := by
  apply List.ext_getElem?
  intro i
  rw [List.getElem?_set, List.getElem?_map, List.getElem?_map, List.length_map, List.length_range]
  by_cases hi : i < n
  · rw [List.getElem?_range hi]
    by_cases e : k = i
    · subst e; simp [hk]
    · simp [e]
  · have e : (List.range n)[i]? = none := by simp; omega
    rw [e]
    by_cases q : k = i
    · omega
    · simp [q]
theorem netL_len (n : Nat) (rs : List (List Int)) (fs : List Int) : (netL n rs fs).length = n := by unfold netL; rw [List.length_map, List.length_range]
theorem netL_hat (n : Nat) (rs : List (List Int)) (fs : List Int) (k : Nat) (hk : k < n) : hat (netL n rs fs) (k : Int) = netAt rs fs (k : Int) := by
  unfold hat netL
  rw [Int.toNat_natCast, List.getD_eq_getElem?_getD, List.getElem?_map, List.getElem?_range hk]
  rfl
theorem hat_set (l : List Int) (j k : Nat) (d : Int) (hj : j < l.length) : hat (l.set j d) (k : Int) = if j = k then d else hat l (k : Int) := by
  unfold hat
  rw [Int.toNat_natCast, List.getD_eq_getElem?_getD, List.getD_eq_getElem?_getD, List.getElem?_set]
  by_cases e : j = k
  · rw [if_pos e, if_pos e, if_pos hj]; rfl
  · rw [if_neg e, if_neg e]
theorem hat_ext {l m : List Int} (hl : l.length = m.length) (h : ∀ k : Nat, k < l.length → hat l (k : Int) = hat m (k : Int)) : l = m := by
  apply List.ext_getElem hl
  intro k h1 h2
  have := h k h1
  unfold hat at this
  rw [Int.toNat_natCast, List.getD_eq_getElem?_getD, List.getD_eq_getElem?_getD, List.getElem?_eq_getElem h1, List.getElem?_eq_getElem h2] at this
  exact this
theorem net_step (n : Nat) (rs : List (List Int)) (fs : List Int) (r : List Int) (v : Int) (ks ke : Nat) (hl : rs.length = fs.length) (h0 : r.getD 0 0 = (ks : Int)) (h1 : r.getD 1 0 = (ke : Int)) (hs : ks < n) (he : ke < n) :
    ((netL n rs fs).set ks (hat (netL n rs fs) ks - v)).set ke (hat ((netL n rs fs).set ks (hat (netL n rs fs) ks - v)) ke + v) = netL n (rs ++ [r]) (fs ++ [v]) := by
  have ln := netL_len n rs fs
  apply hat_ext
  · rw [List.length_set, List.length_set, ln, netL_len]
  · intro k hk
    rw [List.length_set, List.length_set, ln] at hk
    rw [hat_set _ ke k _ (by rw [List.length_set, ln]; exact he), hat_set _ ks ke _ (by rw [ln]; exact hs), hat_set _ ks k _ (by rw [ln]; exact hs), netL_hat n rs fs ks hs, netL_hat n rs fs ke he, netL_hat n rs fs k hk, netL_hat n (rs ++ [r]) (fs ++ [v]) k hk, netAt_snoc rs fs r v k hl, h0, h1]
    by_cases a : ke = k
    · subst a
      by_cases c : ks = ke
      · subst c; simp
      · have c' : ¬ ((ks : Int) = (ke : Int)) := by omega
        simp [c, c']
    · have a' : ¬ ((ke : Int) = (k : Int)) := by omega
      by_cases c : ks = k
      · subst c; simp [a, a']; omega
      · have c' : ¬ ((ks : Int) = (k : Int)) := by omega
        simp [a, a', c, c']
theorem ixN_of {n : Nat} {k : Nat} (h : k < n) : ixN n (k : Int) = some k := by
  unfold ixN
  rw [if_pos (by omega), if_pos (by omega)]
  simp
end D0
namespace D0
open PySem PySem.Spec PyProof.Rows L2
section
variable {K : PySem.W.Frag} {σ : L2.St} {H : Hp} {Q : VK} {te : TE} {ta : TA} {vs : List Nat} {g : TG}
/-- [e for row, v in zip(rows, ints)] over two tuples -/
theorem lc_zipR {a b : Addr} {xs : List V} {rs : List (List Int)} {fs : List Int} (f : List Int → Int → V) (hl : ∀ Qe : List V → Hp → Prop, Qe [.ref a, .ref b] H → ta σ H Qe) (ha : H a = some (.tup xs)) (hr : RowsAt H xs rs) (hb : H b = some (.tup (fs.map V.int))) (hlen : fs.length = rs.length) (hz : xs.length ≤ 100000)
    (he : ∀ (x : V) (r : List Int) (v : Int) (T : Addr) (H' : Hp) (Nx : VK) (E : Hp → Prop), r ∈ rs → Same H H' → Tn H' x r → H' T = some (.tup [x, .int v]) → (∀ H'', Same H' H'' → Nx (f r v) H'') →
      g (.ref T) (wipe σ vs) H' fun σ2 H2 => wipe σ2 vs = wipe σ vs ∧ tYes σ2 H2 fun b H3 => if b = true then te σ2 H3 Nx else E H3)
    (q : ∀ D H', H D = none → Same H H' → H' D = some (.lst ((rs.zip fs).map fun p => f p.1 p.2)) → Q (.ref D) H') : tLc (RZ.iZipA K ta) g tYes te vs σ H Q := by
  have hln := Paired.len hr
  refine hl _ ⟨a, b, xs, fs.map V.int, rfl, .inr ⟨SqT.of ha, SqT.of hb, fun D hD => ?_⟩⟩
  refine ⟨fun i m H' => i + m = xs.length ∧ Same H H' ∧ H' D = some (.lst (((rs.zip fs).take i).map fun p => f p.1 p.2)), ⟨xs.length, by omega, same_upd hD, upd_same⟩, ?_⟩
  rintro i m H' ⟨em, s, e⟩
  by_cases hi : i < xs.length
  · have hx : xs[i]? = some xs[i] := List.getElem?_eq_getElem hi
    obtain ⟨r, er, hxr⟩ := Paired.get1 hr hx
    have hif : i < fs.length := by omega
    have ev : fs[i]? = some fs[i] := List.getElem?_eq_getElem hif
    have hy : (fs.map V.int)[i]? = some (.int fs[i]) := by rw [List.getElem?_map, ev]; rfl
    refine .inr ⟨⟨_, _, _, _, SqT.of (s _ _ ha), SqT.of (s _ _ hb), hx, hy⟩, fun H2 => Same H H2 ∧ H2 D = some (.lst (((rs.zip fs).take (i + 1)).map fun p => f p.1 p.2)), fun H2 h2 => ⟨m - 1, by omega, by omega, h2.1, h2.2⟩, ?_⟩
    rintro w H2 ⟨T, x, y, rfl, hT, rfl, gx, gy⟩
    have e1 : x = xs[i] := Option.some.inj ((gx _ (SqT.of (s _ _ ha))).symm.trans hx)
    have e2 : y = .int fs[i] := Option.some.inj ((gy _ (SqT.of (s _ _ hb))).symm.trans hy)
    subst e1 e2
    have s2 := s.trans (same_upd hT (o := .tup [xs[i], .int fs[i]]))
    refine he xs[i] r fs[i] T _ _ _ (List.mem_of_getElem? er) s2 (hxr.same s2) upd_same fun H'' s3 => ?_
    have e3 := s3 _ _ (same_upd hT _ _ e)
    refine ⟨_, e3, ?_, ?_, ?_⟩
    · rw [List.length_map]
      exact sz4' (by rw [List.length_take, List.length_zip]; omega)
    · intro b' o eb
      rw [upd_ne (ne_of_none eb hD)]
      exact s3 _ _ (s2 _ _ eb)
    · have ez : (rs.zip fs)[i]? = some (r, fs[i]) := by rw [List.getElem?_zip_eq_some]; exact ⟨er, ev⟩
      rw [upd_same, List.take_add_one, ez, List.map_append]
      rfl
  · refine .inl ⟨⟨xs, _, SqT.of (s _ _ ha), SqT.of (s _ _ hb), .inl (by omega)⟩, ?_⟩
    rw [List.take_of_length_le (by rw [List.length_zip]; omega)] at e
    exact q D H' hD s e
end
def wsum (rs : List (List Int)) (fs : List Int) : Int := ((rs.zip fs).map fun p => p.1.getD 2 0 * p.2).sum
end D0
namespace D0
open PySem PySem.Spec PyProof.Rows L2
theorem eqv_ints : ∀ l m : List Int, PyData.eqvAll (l.map PyData.int) (m.map PyData.int) = decide (l = m)
  | [], [] => rfl
  | [], _ :: _ => rfl
  | _ :: _, [] => rfl
  | x :: l, y :: m => by
    show (PyData.eqv (.int x) (.int y) && PyData.eqvAll (l.map PyData.int) (m.map PyData.int)) = _
    rw [eqv_ints l m, show PyData.eqv (.int x) (.int y) = (x == y) from rfl]
    by_cases h : x = y
    · subst h; simp
    · simp [h]
theorem dp_ints (K : PySem.W.Frag) (H : Hp) : ∀ l : List Int, DpAll K H (l.map V.int) (l.map PyData.int)
  | [] => .nil
  | x :: l => .cons (.int x) (dp_ints K H l)
section
variable {X : Cx} (K : PySem.W.Frag)
theorem dEqD (hu : X.A.units + 64 < cLine) (hK : X.K = K := by rfl) : OpR X (compareOp .Eq) (rEqD K) := by subst hK; exact op_eqD hu
end
section
variable {K : PySem.W.Frag} {σ : L2.St} {H : Hp} {Q : VK} {te tl : TE} {vs : List Nat} {j : Nat}
theorem lay_ints : ∀ l : List Int, PyData.canLayAll0 (l.map PyData.int) = true ∧ PyData.depthAll (l.map PyData.int) = 0
  | [] => ⟨rfl, rfl⟩
  | x :: l => ⟨(lay_ints l).1, by
    show max (PyData.depth (.int x)) (PyData.depthAll (l.map PyData.int)) = 0
    rw [(lay_ints l).2]; rfl⟩
theorem sh_ints (l : List Int) : SeqAt.shaped (.list (l.map PyData.int)) = true := by
  have h := lay_ints l
  have h1 : PyData.canLay0 (.list (l.map PyData.int)) = true := h.1
  have h2 : PyData.depth (.list (l.map PyData.int)) = 1 := by
    show PyData.depthAll (l.map PyData.int) + 1 = 1
    rw [h.2]
  unfold SeqAt.shaped
  rw [h1, h2]; rfl
theorem rv_eqLI {a b : Addr} {l m : List Int} (ha : SqL K H a (l.map V.int)) (hb : SqL K H b (m.map V.int)) (q : Q (.bl (decide (l = m))) H) : rEqD K (.ref a) (.ref b) H Q :=
  ⟨.list (l.map PyData.int), .list (m.map PyData.int), .lst ha (dp_ints K H l), .lst hb (dp_ints K H m), sh_ints l, sh_ints m, by
    show Q (.bl (PyData.eqvAll (l.map PyData.int) (m.map PyData.int))) H
    rw [eqv_ints]; exact q⟩
/-- [e for x in a tuple], e a value f x -/
theorem lc_tmap {a : Addr} {xs : List V} (f : V → V) (hl : ∀ Qe : VK, Qe (.ref a) H → tl σ H Qe) (hs : SqT K H a xs) (hz : xs.length ≤ 100000) (hw : ∀ x, wipe ((wipe σ vs).set j (some x)) vs = wipe σ vs)
    (he : ∀ (i : Nat) (x : V) (H' : Hp), xs[i]? = some x → Same H H' → ∀ Qe : VK, (∀ H'', Same H' H'' → Qe (f x) H'') → te ((wipe σ vs).set j (some x)) H' Qe)
    (q : ∀ D H', H D = none → Same H H' → H' D = some (.lst (xs.map f)) → Q (.ref D) H') : tLc (iTup K tl) (gName j) tYes te vs σ H Q := by
  have keep : ∀ H', Same H H' → SqT K H' a xs := fun H' s => by
    rcases hs with (e | ⟨u, e⟩) | e
    · exact .inl (.inl (s _ _ e))
    · exact .inl (.inr ⟨u, s _ _ e⟩)
    · exact .inr e
  refine hl _ ⟨a, rfl, ⟨_, hs⟩, fun D hD => ?_⟩
  refine lc_tup (K := K) (a := a) (xs := xs) (fun i H' => Same H H' ∧ H' D = some (.lst ((xs.take i).map f))) ⟨same_upd hD, upd_same⟩ (fun i H' _ h => keep H' h.1) ?_ ?_
  · rintro i x H' hx ⟨s, e⟩
    refine ⟨hw x, rd_yes (iteT ?_)⟩
    refine he i x H' hx s _ fun H'' s2 => ?_
    refine ⟨_, s2 _ _ e, ?_, ?_, ?_⟩
    · rw [List.length_map, List.length_take]
      exact sz4' (by have := (List.getElem?_eq_some_iff.mp hx).1; omega)
    · intro b o eb
      rw [upd_ne (ne_of_none eb hD)]
      exact s2 _ _ (s _ _ eb)
    · rw [upd_same, List.take_add_one, hx, List.map_append]; rfl
  · rintro H' ⟨s, e⟩
    rw [List.take_length] at e
    exact q D H' hD s e
end
end D0
namespace D0
open PySem PySem.Spec PyProof.Rows L2
section
variable {K : PySem.W.Frag} {σ : L2.St} {H : Hp} {Q : VK} {te : TE} {ta : TA} {vs : List Nat} {j : Nat}
/-- [e for k in range(n)], e a value f k -/
theorem lc_rmap {n : Nat} (f : Nat → V) (hn : n ≤ 100000) (hl : ∀ Qe : List V → Hp → Prop, Qe [.int (n : Int)] H → ta σ H Qe) (hw : ∀ x, wipe ((wipe σ vs).set j (some x)) vs = wipe σ vs)
    (he : ∀ (i : Nat) (H' : Hp), i < n → Same H H' → ∀ Qe : VK, (∀ H'', Same H' H'' → Qe (f i) H'') → te ((wipe σ vs).set j (some (.int (i : Int)))) H' Qe)
    (q : ∀ D H', H D = none → Same H H' → H' D = some (.lst ((List.range n).map f)) → Q (.ref D) H') : tLc (iRng1 ta) (gName j) tYes te vs σ H Q := by
  refine hl _ ⟨(n : Int), rfl, by omega, by omega, fun D hD => ?_⟩
  refine lc_range (lo := 0) (n := ((n : Int)).toNat) (fun i H' => Same H H' ∧ H' D = some (.lst ((List.range i).map f))) ⟨same_upd hD, upd_same⟩ ?_ ?_
  · rintro i H' hi ⟨s, e⟩
    refine ⟨hw _, rd_yes (iteT ?_)⟩
    rw [show (0 : Int) + (i : Int) = (i : Int) by omega]
    refine he i H' (by omega) s _ fun H'' s2 => ?_
    refine ⟨_, s2 _ _ e, ?_, ?_, ?_⟩
    · rw [List.length_map, List.length_range]
      exact sz4' (by omega)
    · intro b o eb
      rw [upd_ne (ne_of_none eb hD)]
      exact s2 _ _ (s _ _ eb)
    · rw [upd_same, List.range_succ, List.map_append]; rfl
  · rintro H' ⟨s, e⟩
    exact q D H' hD s e
end
theorem zip_range (rs : List (List Int)) (fs : List Int) (h : fs.length = rs.length) : (List.range rs.length).map (fun k => fs.getD k 0 * (rs.getD k []).getD 2 0) = (rs.zip fs).map fun p => p.1.getD 2 0 * p.2 := by
  apply List.ext_getElem
  · simp; omega
  · intro k h1 h2
    have hk : k < rs.length := by simpa using h1
    have hk2 : k < fs.length := by omega
    simp [List.getD_eq_getElem?_getD, hk, hk2, Int.mul_comm]
end D0
namespace D0
open PySem PySem.Spec PyProof.Rows L2
def OffS (S : List Addr) (H H' : Hp) : Prop := ∀ a o, a ∉ S → H a = some o → H' a = some o
theorem OffS.refl (S : List Addr) (H : Hp) : OffS S H H := fun _ _ _ e => e
theorem OffS.trans {S : List Addr} {H H1 H2 : Hp} (x : OffS S H H1) (y : OffS S H1 H2) : OffS S H H2 := fun a o n e => y a o n (x a o n e)
theorem OffS.new {S : List Addr} {H H1 : Hp} {p : Addr} {o : HO} (x : OffS S H H1) (h : H1 p = none) : OffS S H (upd H1 p o) := fun a u n e => same_upd h _ _ (x a u n e)
theorem OffS.set {S : List Addr} {H H1 : Hp} {p : Addr} {o : HO} (x : OffS S H H1) (h : p ∈ S) : OffS S H (upd H1 p o) := fun a u n e => (upd_ne fun q => n (by rw [q]; exact h)).trans (x a u n e)
theorem OffS.mut {S : List Addr} {H H1 : Hp} {p : Addr} {o : HO} (x : OffS S H H1) (h : H p = none) : OffS S H (upd H1 p o) := fun a u n e => (upd_ne (ne_of_none e h)).trans (x a u n e)
theorem OffS.off {S : List Addr} {b : Addr} {H H1 H2 : Hp} (x : OffS S H H1) (h : b ∈ S) (y : Off b H1 H2) : OffS S H H2 := fun a u n e => y a u (fun q => n (by rw [q]; exact h)) (x a u n e)
theorem OffS.same {S : List Addr} {H H1 H2 : Hp} (x : OffS S H H1) (y : Same H1 H2) : OffS S H H2 := fun a u n e => y a u (x a u n e)
theorem OffS.get {S : List Addr} {H H' : Hp} {a : Addr} {o : HO} (x : OffS S H H') (n : a ∉ S) (e : H a = some o) : H' a = some o := x a o n e
theorem OffS.fresh {S : List Addr} {H H1 : Hp} {p : Addr} (x : OffS S H H1) (n : p ∉ S) (h : H1 p = none) : H p = none := by
  cases e : H p with
  | none => rfl
  | some o => rw [x p o n e] at h; cases h
/-- what is not in the first list or was not there at first -/
theorem OffS.to {S : List Addr} {b : Addr} {H0 H H1 : Hp} (x : OffS S H H1) (f : Off b H0 H) (h : ∀ a ∈ S, a = b ∨ H0 a = none) : Off b H0 H1 := fun a u n e =>
  x a u (fun m => (h a m).elim n fun z => by rw [z] at e; cases e) (f a u n e)
theorem OffS.toS {S T : List Addr} {H0 H H1 : Hp} (x : OffS S H H1) (f : OffS T H0 H) (h : ∀ a ∈ S, a ∈ T ∨ H0 a = none) : OffS T H0 H1 := fun a u n e =>
  x a u (fun m => (h a m).elim n fun z => by rw [z] at e; cases e) (f a u n e)
theorem OffS.of_off {S : List Addr} {b : Addr} {H H1 : Hp} (x : Off b H H1) (h : b ∈ S) : OffS S H H1 := (OffS.refl S H).off h x
theorem OffS.ts {S : List Addr} {H H' : Hp} (x : OffS S H H') (h : ∀ a ∈ S, ∃ xs, H a = some (.lst xs)) : TS H H' := fun a xs e => by
  by_cases m : a ∈ S
  · obtain ⟨ys, z⟩ := h a m
    rw [z] at e; cases e
  · exact x a _ m e
theorem BagAt.lst {b c : Addr} {cs : List Int} {H : Hp} (x : BagAt b c cs H) : ∃ xs, H b = some (.lst xs) := by
  obtain ⟨i, z, s, n, k, e, _⟩ := x
  exact ⟨_, e⟩
def TnF (H : Hp) (v : V) (p : List Int × Int) : Prop := ∃ a x, v = .ref a ∧ H a = some (.tup [x, .int p.2]) ∧ Tn H x p.1
theorem TnF.ts {H H' : Hp} {v : V} {p : List Int × Int} (x : TnF H v p) (t : TS H H') : TnF H' v p := by
  obtain ⟨a, y, rfl, e, z⟩ := x
  exact ⟨a, y, rfl, t _ _ e, z.ts t⟩
theorem TnF.same {H H' : Hp} {v : V} {p : List Int × Int} (x : TnF H v p) (t : Same H H') : TnF H' v p := x.ts (.of_same t)
theorem Paired.take {α β : Type} {F : α → β → Prop} : ∀ {l₁ : List α} {l₂ : List β} (n : Nat), Paired F l₁ l₂ → Paired F (l₁.take n) (l₂.take n)
  | _, _, 0, _ => by rw [List.take_zero, List.take_zero]; exact .nil
  | _, _, _ + 1, .nil => by rw [List.take_nil, List.take_nil]; exact .nil
  | _, _, n + 1, .cons h t => by rw [List.take_succ_cons, List.take_succ_cons]; exact .cons h (Paired.take n t)
theorem Paired.of_get {α β : Type} {F : α → β → Prop} : ∀ {l₁ : List α} {l₂ : List β}, l₁.length = l₂.length → (∀ (i : Nat) x y, l₁[i]? = some x → l₂[i]? = some y → F x y) → Paired F l₁ l₂
  | [], [], _, _ => .nil
  | [], _ :: _, h, _ => by simp at h
  | _ :: _, [], h, _ => by simp at h
  | _ :: _, _ :: _, h, f => .cons (f 0 _ _ rfl rfl) (Paired.of_get (by simpa using h) fun i x y hx hy => f (i + 1) x y (by simpa using hx) (by simpa using hy))
theorem Paired.map2 {α β γ : Type} {F : α → γ → Prop} (f : β → γ) : ∀ {l₁ : List α} {l₂ : List β}, Paired (fun x y => F x (f y)) l₁ l₂ → Paired F l₁ (l₂.map f)
  | _, _, .nil => .nil
  | _, _, .cons h t => .cons h (Paired.map2 f t)
theorem Paired.map1 {α β γ : Type} {F : γ → β → Prop} (f : α → γ) : ∀ {l₁ : List α} {l₂ : List β}, Paired (fun x y => F (f x) y) l₁ l₂ → Paired F (l₁.map f) l₂
  | _, _, .nil => .nil
  | _, _, .cons h t => .cons h (Paired.map1 f t)
theorem Paired.map2' {α β γ : Type} {F : α → γ → Prop} (f : β → γ) : ∀ {l₁ : List α} {l₂ : List β}, Paired F l₁ (l₂.map f) → Paired (fun x y => F x (f y)) l₁ l₂
  | [], [], _ => .nil
  | [], _ :: _, h => by cases h
  | _ :: _, [], h => by cases h
  | _ :: _, _ :: _, .cons h t => .cons h (Paired.map2' f t)
theorem Paired.fn {α β : Type} (f : β → α) : ∀ {l₁ : List α} {l₂ : List β}, Paired (fun x y => x = f y) l₁ l₂ → l₁ = l₂.map f
  | _, _, .nil => rfl
  | _, _, .cons h t => by rw [h, Paired.fn f t]; rfl
theorem Paired.app {α β : Type} {F : α → β → Prop} : ∀ {l₁ : List α} {l₂ : List β} {m₁ : List α} {m₂ : List β}, Paired F l₁ l₂ → Paired F m₁ m₂ → Paired F (l₁ ++ m₁) (l₂ ++ m₂)
  | _, _, _, _, .nil, h => h
  | _, _, _, _, .cons h t, h2 => .cons h (Paired.app t h2)
theorem Paired.get2 {α β : Type} {F : α → β → Prop} : ∀ {xs : List α} {ys : List β} {i : Nat} {y : β}, Paired F xs ys → ys[i]? = some y → ∃ x, xs[i]? = some x ∧ F x y
  | _, _, i, y, .nil, h => by simp at h
  | _, _, 0, y, .cons f _, h => by
    rw [List.getElem?_cons_zero] at h
    cases h
    exact ⟨_, rfl, f⟩
  | _, _, i + 1, y, .cons _ t, h => by
    rw [List.getElem?_cons_succ] at h
    obtain ⟨x, e, f⟩ := Paired.get2 t h
    exact ⟨x, by rw [List.getElem?_cons_succ]; exact e, f⟩
/-- a rearranged list of values has a rearranged list of what it stands for -/
theorem Paired.perm {α β : Type} {F : α → β → Prop} {xs ys : List α} (p : ys.Perm xs) : ∀ {rs : List β}, Paired F xs rs → ∃ ss, Paired F ys ss ∧ ss.Perm rs := by
  induction p with
  | nil => intro rs h; cases h; exact ⟨[], .nil, List.Perm.refl _⟩
  | cons x _ ih =>
    intro rs h
    cases h with
    | cons h t =>
      obtain ⟨ss, h2, p2⟩ := ih t
      exact ⟨_ :: ss, .cons h h2, p2.cons _⟩
  | swap x y l =>
    intro rs h
    cases h with
    | cons h t => cases t with
      | cons h2 t2 => exact ⟨_, .cons h2 (.cons h t2), List.Perm.swap ..⟩
  | trans _ _ ih1 ih2 =>
    intro rs h
    obtain ⟨ss, h1, p1⟩ := ih2 h
    obtain ⟨ss', h2, p2⟩ := ih1 h1
    exact ⟨ss', h2, p2.trans p1⟩
theorem dSlTA {X : Cx} (K : PySem.W.Frag) (hK : X.K = K := by rfl) : SlR X (rSlA K) := by subst hK; exact sl_tupA
theorem cut_take (xs : List V) (k : Nat) : cutV xs none (some (k : Int)) = xs.take k := by
  unfold cutV
  rw [HT.sIx_none, HT.sIx_nat, List.drop_zero, Nat.sub_zero]
  by_cases h : k ≤ xs.length
  · rw [Nat.min_eq_left h]
  · rw [Nat.min_eq_right (by omega), List.take_length, List.take_of_length_le (by omega)]
theorem cut_drop (xs : List V) (k : Nat) : cutV xs (some (k : Int)) none = xs.drop k := by
  unfold cutV
  rw [HT.sIx_none, HT.sIx_nat]
  by_cases h : k ≤ xs.length
  · rw [Nat.min_eq_left h, List.take_of_length_le (by rw [List.length_drop]; omega)]
  · rw [Nat.min_eq_right (by omega), List.drop_length, List.drop_eq_nil_of_le (by omega), List.take_nil]
theorem rv_slTA {K : PySem.W.Frag} {H : Hp} {Q : VK} {p : Addr} {xs : List V} {lo hi : Option Int} (h : H p = some (.tup xs)) (q : ∀ a H', Same H H' → H' a = some (.tup (cutV xs lo hi)) → Q (.ref a) H') : rSlA K (.ref p) lo hi H Q := by
  refine ⟨p, xs, rfl, SqT.of h, fun w => q p H (fun _ _ e => e) ?_, fun _ a ha => q a _ (same_upd ha) upd_same⟩
  have e : cutV xs lo hi = xs := by
    unfold cutV
    rw [w.1, w.2, List.drop_zero, Nat.sub_zero, List.take_length]
  rw [e]
  exact h
theorem rg_ints (n : Nat) : rgV 0 (n : Int) = ((List.range n).map fun i : Nat => (i : Int)).map V.int := by
  unfold rgV
  rw [List.map_map, show ((n : Int) - 0).toNat = n by omega]
  exact List.map_congr_left fun i _ => by show V.int (0 + (i : Int)) = V.int (i : Int); rw [Int.zero_add]
section
variable {K : PySem.W.Frag} {σ : L2.St} {H : Hp} {Q : VK} {te tl : TE} {ta : TA} {vs : List Nat} {j : Nat} {g : TG} {tt : TT}
theorem rd_listRg {te : L2.St → Hp → (Int → Int → Hp → Prop) → Prop} (q : te σ H fun a b H1 => RgOk a b ∧ ∀ q, H1 q = none → Q (.ref q) (upd H1 q (.lst (rgV a b)))) : tLstRg te σ H Q := q
theorem rd_tupRg {te : L2.St → Hp → (Int → Int → Hp → Prop) → Prop} (q : te σ H fun a b H1 => RgOk a b ∧ ∀ q, H1 q = none → Q (.ref q) (upd H1 q (.tup (rgV a b)))) : tTupRg te σ H Q := q
theorem rd_rg1 {R : Int → Int → Hp → Prop} (q : te σ H fun x H1 => ∃ n, x = .int n ∧ R 0 n H1) : tRg1 te σ H R := q
theorem rd_rg2 {R : Int → Int → Hp → Prop} (q : te σ H fun x H1 => tl σ H1 fun y H2 => ∃ i j, x = .int i ∧ y = .int j ∧ R i j H2) : tRg2 te tl σ H R := q
theorem rv_i1 {i : Int} {R : Int → Prop} (q : R i) : ∃ n, V.int i = V.int n ∧ R n := ⟨i, rfl, q⟩
theorem rv_i2 {i j : Int} {R : Int → Int → Prop} (q : R i j) : ∃ n m, V.int i = V.int n ∧ V.int j = V.int m ∧ R n m := ⟨i, j, rfl, rfl, q⟩
def LC (J : It) (g : TG) (tt : TT) (te : TE) (vs : List Nat) (σ : L2.St) (H1 : Hp) (Q : VK) : Prop := ∀ D, H1 D = none → ∃ W : Nat → Nat → Hp → Prop, (∃ m, W 0 m (upd H1 D (.lst []))) ∧ ∀ i m H, W i m H →
  (J.stop i H ∧ Q (.ref D) H) ∨ (J.go i H ∧ ∃ Nx : Hp → Prop, (∀ H', Nx H' → ∃ m', m' < m ∧ W (i + 1) m' H') ∧ ∀ x H', J.yld i H x H' → g x (wipe σ vs) H' fun σ2 H2 => wipe σ2 vs = wipe σ vs ∧ tt σ2 H2 fun b H3 =>
    if b = true then te σ2 H3 fun y H4 => ∃ acc, H4 D = some (.lst acc) ∧ acc.length < sizeLine ∧ Nx (upd H4 D (.lst (acc ++ [y]))) else Nx H3)
theorem rd_lc {wi : TI} (q : wi σ H fun J H1 => LC J g tt te vs σ H1 Q) : tLc wi g tt te vs σ H Q := q
/-- a comprehension that changes nothing that stood: for each turn i that is kept a value y with Gd i y -/
theorem lc_pureG {J : It} {n : Nat} {G : Hp → Prop} {Y : Nat → Hp → V → Hp → Prop} (w : Walk J n G Y) (kp : Nat → Bool) (Gd : Addr → Nat → V → Hp → Prop) (hn : n ≤ 100000)
    (hG : ∀ H', Same H H' → G H') (hY : ∀ i H' x H2, Y i H' x H2 → Same H' H2) (hS : ∀ D i y H1 H2, (∃ zs, H1 D = some (.lst zs)) → Off D H1 H2 → Gd D i y H1 → Gd D i y H2)
    (he : ∀ (D : Addr) (i : Nat) (x : V) (H' H2 : Hp) (Nx : VK) (E : Hp → Prop), i < n → H D = none → (∃ zs, H' D = some (.lst zs)) → Same H H' → Same H' H2 → Y i H' x H2 → (kp i = true → ∀ y H'', Same H2 H'' → Gd D i y H'' → Nx y H'') → (kp i = false → ∀ H'', Same H2 H'' → E H'') →
      g x (wipe σ vs) H2 fun σ2 H3 => wipe σ2 vs = wipe σ vs ∧ tt σ2 H3 fun b H4 => if b = true then te σ2 H4 Nx else E H4)
    (q : ∀ D ys H', H D = none → Same H H' → H' D = some (.lst ys) → Paired (fun y i => Gd D i y H') ys ((List.range n).filter kp) → Q (.ref D) H') : LC J g tt te vs σ H Q := by
  intro D hD
  refine lc_it w (fun i H' => Same H H' ∧ ∃ ys, H' D = some (.lst ys) ∧ Paired (fun y i => Gd D i y H') ys ((List.range i).filter kp)) ⟨same_upd hD, [], upd_same, .nil⟩ (fun i H' _ h => hG _ h.1) ?_ ?_
  · rintro i x H' H2 hi ⟨s, ys, e, p⟩ hy
    have s2 : Same H' H2 := hY _ _ _ _ hy
    have hlen : ys.length ≤ i := by
      rw [Paired.len p]
      exact Nat.le_trans (List.length_filter_le _ _) (by rw [List.length_range]; omega)
    refine he D i x H' H2 _ _ hi hD ⟨ys, e⟩ s s2 hy (fun hk y H'' s3 gy => ?_) (fun hk H'' s3 => ?_)
    · have s23 := s2.trans s3
      have su : Off D H'' (upd H'' D (.lst (ys ++ [y]))) := (Off.refl D H'').set
      have e'' := s23 _ _ e
      refine ⟨ys, e'', sz4' (by omega), ?_, ys ++ [y], upd_same, ?_⟩
      · intro b o eb
        rw [upd_ne (ne_of_none eb hD)]
        exact s23 _ _ (s _ _ eb)
      · rw [List.range_succ, List.filter_append]
        simp only [List.filter_cons, hk, List.filter_nil, if_true]
        refine Paired.app (Paired.mapP p fun y i h => hS D i y _ _ ⟨_, e⟩ ((Off.of_same s23).trans su) h) (.cons (hS D i y _ _ ⟨_, e''⟩ su gy) .nil)
    · refine ⟨s.trans (s2.trans s3), ys, (s2.trans s3) _ _ e, ?_⟩
      rw [List.range_succ, List.filter_append]
      simp only [List.filter_cons, hk, List.filter_nil, if_neg Bool.false_ne_true, List.append_nil]
      exact Paired.mapP p fun y i => hS D i y _ _ ⟨_, e⟩ (.of_same (s2.trans s3))
  · rintro H' ⟨s, ys, e, p⟩
    exact q D ys H' hD s e p
/-- a comprehension that draws from the bag at b -/
theorem lc_drawG {J : It} {n : Nat} {G : Hp → Prop} {Y : Nat → Hp → V → Hp → Prop} {b c : Addr} {cs : List Int} (w : Walk J n G Y) (Gd : Addr → Nat → V → Hp → Prop) (hn : n ≤ 100000) (B : BagAt b c cs H)
    (hG : ∀ H', Off b H H' → G H') (hY : ∀ i H' x H2, Y i H' x H2 → Same H' H2) (hS : ∀ D i y H1 H2, D ≠ b → (∃ zs, H1 D = some (.lst zs)) → (∃ zs, H1 b = some (.lst zs)) → OffS [b, D] H1 H2 → Gd D i y H1 → Gd D i y H2)
    (he : ∀ (D : Addr) (i : Nat) (x : V) (H' H2 : Hp) (Qe : VK) (E : Hp → Prop), i < n → H D = none → (∃ zs, H' D = some (.lst zs)) → Off b H H' → BagAt b c cs H2 → Same H' H2 → Y i H' x H2 → (∀ y H'', Off b H2 H'' → BagAt b c cs H'' → Gd D i y H'' → Qe y H'') →
      g x (wipe σ vs) H2 fun σ2 H3 => wipe σ2 vs = wipe σ vs ∧ tt σ2 H3 fun b H4 => if b = true then te σ2 H4 Qe else E H4)
    (q : ∀ D ys H', H D = none → Off b H H' → BagAt b c cs H' → H' D = some (.lst ys) → D ≠ b → D ≠ c → Paired (fun y i => Gd D i y H') ys (List.range n) → Q (.ref D) H') : LC J g tt te vs σ H Q := by
  intro D hD
  have hDb : D ≠ b := B.ne hD
  have hDc : D ≠ c := B.ne2 hD
  have hbD : b ≠ D := hDb.symm
  refine lc_it w (fun i H' => Off b H H' ∧ BagAt b c cs H' ∧ ∃ ys, H' D = some (.lst ys) ∧ Paired (fun y i => Gd D i y H') ys (List.range i)) ⟨(Off.refl b H).new hD, B.new hD, [], upd_same, .nil⟩ (fun i H' _ h => hG _ h.1) ?_ ?_
  · rintro i x H' H2 hi ⟨f, B', ys, e, p⟩ hy
    have s2 : Same H' H2 := hY _ _ _ _ hy
    have hlen : ys.length = i := by rw [Paired.len p, List.length_range]
    refine he D i x H' H2 _ _ hi hD ⟨ys, e⟩ f (B'.same s2) s2 hy fun y H'' f3 B3 gy => ?_
    have f23 : Off b H' H'' := (Off.of_same s2).trans f3
    have e'' := f23.get hDb e
    have su : OffS [b, D] H'' (upd H'' D (.lst (ys ++ [y]))) := (OffS.refl _ _).set (by simp)
    refine ⟨ys, e'', sz4' (by omega), (f.trans f23).mut hD, B3.put hDb hDc, ys ++ [y], upd_same, ?_⟩
    rw [List.range_succ]
    exact Paired.app (Paired.mapP p fun y i h => hS D i y _ _ hDb ⟨_, e⟩ B'.lst ((OffS.of_off f23 (by simp)).trans su) h) (.cons (hS D i y _ _ hDb ⟨_, e''⟩ B3.lst su gy) .nil)
  · rintro H' ⟨f, B', ys, e, p⟩
    exact q D ys H' hD f B' e hDb hDc p
theorem Off.ts {b : Addr} {H H' : Hp} (x : Off b H H') (h : ∃ zs, H b = some (.lst zs)) : TS H H' := fun a xs e => by
  by_cases m : a = b
  · obtain ⟨ys, z⟩ := h
    rw [m, z] at e; cases e
  · exact x a _ m e
theorem Paired.of_range {α β : Type} {F : α → β → Prop} {ys : List α} {rs : List β} {n : Nat} (hn : n = rs.length) (h : Paired (fun y i => ∃ r, rs[i]? = some r ∧ F y r) ys (List.range n)) : Paired F ys rs := by
  refine Paired.of_get (by rw [Paired.len h, List.length_range, hn]) fun i y r hy hr => ?_
  obtain ⟨k, hk, r', e, f⟩ := Paired.get1 h hy
  have hi : i < n := by rw [hn]; exact (List.getElem?_eq_some_iff.mp hr).1
  rw [List.getElem?_range hi] at hk
  cases hk
  rw [hr] at e
  cases e
  exact f
/-- for each r of rs a value y with F y r; F speaks of tuples alone -/
theorem lc_pureT {β : Type} {J : It} {n : Nat} {G : Hp → Prop} {Y : Nat → Hp → V → Hp → Prop} (w : Walk J n G Y) (rs : List β) (F : Hp → V → β → Prop) (hl : n = rs.length) (hn : n ≤ 100000)
    (hG : ∀ H', Same H H' → G H') (hY : ∀ i H' x H2, Y i H' x H2 → Same H' H2) (hF : ∀ H1 H2 y r, TS H1 H2 → F H1 y r → F H2 y r)
    (he : ∀ (i : Nat) (r : β) (x : V) (H' H2 : Hp) (Nx : VK) (E : Hp → Prop), rs[i]? = some r → Same H H' → Same H' H2 → Y i H' x H2 → (∀ y H'', Same H2 H'' → F H'' y r → Nx y H'') →
      g x (wipe σ vs) H2 fun σ2 H3 => wipe σ2 vs = wipe σ vs ∧ tt σ2 H3 fun b H4 => if b = true then te σ2 H4 Nx else E H4)
    (q : ∀ D ys H', H D = none → Same H H' → H' D = some (.lst ys) → Paired (F H') ys rs → Q (.ref D) H') : LC J g tt te vs σ H Q := by
  refine lc_pureG w (fun _ => true) (fun _ i y H' => ∃ r, rs[i]? = some r ∧ F H' y r) hn hG hY (fun D i y H1 H2 z f ⟨r, er, h⟩ => ⟨r, er, hF _ _ _ _ (Off.ts f z) h⟩) ?_ ?_
  · intro D i x H' H2 Nx E hi hD eD s s2 hy hN _
    have er : rs[i]? = some (rs[i]'(by omega)) := List.getElem?_eq_getElem (by omega)
    exact he i _ x H' H2 Nx E er s s2 hy fun y H'' s3 f => hN rfl y H'' s3 ⟨_, er, f⟩
  · intro D ys H' hD s e p
    rw [ftrue] at p
    exact q D ys H' hD s e (Paired.of_range hl p)
/-- the value f i for each turn i that is kept -/
theorem lc_pureF {J : It} {n : Nat} {G : Hp → Prop} {Y : Nat → Hp → V → Hp → Prop} (w : Walk J n G Y) (kp : Nat → Bool) (f : Nat → V) (hn : n ≤ 100000)
    (hG : ∀ H', Same H H' → G H') (hY : ∀ i H' x H2, Y i H' x H2 → Same H' H2)
    (he : ∀ (i : Nat) (x : V) (H' H2 : Hp) (Nx : VK) (E : Hp → Prop), i < n → Same H H' → Same H' H2 → Y i H' x H2 → (kp i = true → ∀ H'', Same H2 H'' → Nx (f i) H'') → (kp i = false → ∀ H'', Same H2 H'' → E H'') →
      g x (wipe σ vs) H2 fun σ2 H3 => wipe σ2 vs = wipe σ vs ∧ tt σ2 H3 fun b H4 => if b = true then te σ2 H4 Nx else E H4)
    (q : ∀ D H', H D = none → Same H H' → H' D = some (.lst (((List.range n).filter kp).map f)) → Q (.ref D) H') : LC J g tt te vs σ H Q := by
  refine lc_pureG w kp (fun _ i y _ => y = f i) hn hG hY (fun D i y H1 H2 _ _ h => h) ?_ ?_
  · intro D i x H' H2 Nx E hi hD eD s s2 hy hN hE
    exact he i x H' H2 Nx E hi s s2 hy (fun hk H'' s3 => hN hk _ H'' s3 rfl) hE
  · intro D ys H' hD s e p
    exact q D H' hD s (by rw [e, Paired.fn f p])
/-- a comprehension that draws: for each r of rs a value y with F y r -/
theorem lc_drawT {β : Type} {J : It} {n : Nat} {G : Hp → Prop} {Y : Nat → Hp → V → Hp → Prop} {b c : Addr} {cs : List Int} (w : Walk J n G Y) (rs : List β) (F : Hp → V → β → Prop) (hl : n = rs.length) (hn : n ≤ 100000) (B : BagAt b c cs H)
    (hG : ∀ H', Off b H H' → G H') (hY : ∀ i H' x H2, Y i H' x H2 → Same H' H2) (hF : ∀ H1 H2 y r, TS H1 H2 → F H1 y r → F H2 y r)
    (he : ∀ (i : Nat) (r : β) (x : V) (H' H2 : Hp) (Qe : VK) (E : Hp → Prop), rs[i]? = some r → Off b H H' → BagAt b c cs H2 → Same H' H2 → Y i H' x H2 → (∀ y H'', Off b H2 H'' → BagAt b c cs H'' → F H'' y r → Qe y H'') →
      g x (wipe σ vs) H2 fun σ2 H3 => wipe σ2 vs = wipe σ vs ∧ tt σ2 H3 fun b H4 => if b = true then te σ2 H4 Qe else E H4)
    (q : ∀ D ys H', H D = none → Off b H H' → BagAt b c cs H' → H' D = some (.lst ys) → D ≠ b → D ≠ c → Paired (F H') ys rs → Q (.ref D) H') : LC J g tt te vs σ H Q := by
  refine lc_drawG w (fun _ i y H' => ∃ r, rs[i]? = some r ∧ F H' y r) hn B hG hY (fun D i y H1 H2 _ z zb f ⟨r, er, h⟩ => ⟨r, er, hF _ _ _ _ (OffS.ts f fun a m => ?_) h⟩) ?_ ?_
  · rcases List.mem_cons.mp m with m | m
    · rw [m]; exact zb
    · rw [List.mem_singleton.mp m]; exact z
  · intro D i x H' H2 Nx E hi hD eD f B2 s2 hy hN
    have er : rs[i]? = some (rs[i]'(by omega)) := List.getElem?_eq_getElem (by omega)
    exact he i _ x H' H2 Nx E er f B2 s2 hy fun y H'' s3 B3 fy => hN y H'' s3 B3 ⟨_, er, fy⟩
  · intro D ys H' hD f B' e h1 h2 p
    exact q D ys H' hD f B' e h1 h2 (Paired.of_range hl p)
theorem same_at {xs : List V} : ∀ i H' x H2, YAt xs i H' x H2 → Same H' H2 := fun i H' x H2 y => by rw [y.1]; exact fun _ _ e => e
theorem same_fn {f : Nat → V} : ∀ i H' x H2, YFn f i H' x H2 → Same H' H2 := fun i H' x H2 y => by rw [y.1]; exact fun _ _ e => e
end
end D0
namespace D0
open PySem PySem.Spec PyProof.Rows L2
structure DK (K : PySem.W.Frag) (α : Type) [DecidableEq α] where
  R : Hp → V → α → Prop
  pd : α → PyData
  dp : ∀ H v x, R H v x → Dp K H v (pd x)
  ev : ∀ x y, PyData.eqv (pd x) (pd y) = decide (x = y)
  lay : ∀ x, PyData.canLay0 (pd x) = true
  d : Nat
  dep : ∀ x, PyData.depth (pd x) ≤ d
def intK (K : PySem.W.Frag) : DK K Int := ⟨fun _ v x => v = .int x, .int, fun _ _ _ h => h ▸ .int _, fun x y => by
  show (x == y) = _
  by_cases h : x = y <;> simp [h], fun _ => rfl, 0, fun _ => Nat.le_refl _⟩
def boolK (K : PySem.W.Frag) : DK K Bool := ⟨fun _ v x => v = .bl x, .bool, fun _ _ _ h => h ▸ .bl _, fun x y => by
  show (x == y) = _
  by_cases h : x = y <;> simp [h], fun _ => rfl, 0, fun _ => Nat.le_refl _⟩
section
variable {K : PySem.W.Frag} {α : Type} [DecidableEq α]
theorem dpAll (k : DK K α) {H : Hp} : ∀ {vs : List V} {xs : List α}, Paired (k.R H) vs xs → DpAll K H vs (xs.map k.pd)
  | _, _, .nil => .nil
  | _, _, .cons h t => .cons (k.dp _ _ _ h) (dpAll k t)
theorem evAll (k : DK K α) : ∀ l m : List α, PyData.eqvAll (l.map k.pd) (m.map k.pd) = decide (l = m)
  | [], [] => rfl
  | [], _ :: _ => rfl
  | _ :: _, [] => rfl
  | x :: l, y :: m => by
    show (PyData.eqv (k.pd x) (k.pd y) && PyData.eqvAll (l.map k.pd) (m.map k.pd)) = _
    rw [evAll k l m, k.ev]
    by_cases h : x = y <;> simp [h]
theorem layAll (k : DK K α) : ∀ l : List α, PyData.canLayAll0 (l.map k.pd) = true
  | [] => rfl
  | x :: l => by
    show (PyData.canLay0 (k.pd x) && PyData.canLayAll0 (l.map k.pd)) = true
    rw [k.lay, layAll k l]; rfl
theorem depAll (k : DK K α) : ∀ l : List α, PyData.depthAll (l.map k.pd) ≤ k.d
  | [] => Nat.zero_le _
  | x :: l => by
    show max (PyData.depth (k.pd x)) (PyData.depthAll (l.map k.pd)) ≤ k.d
    have h1 := k.dep x
    have h2 := depAll k l
    omega
def lstK (k : DK K α) : DK K (List α) := ⟨fun H v xs => ∃ a vs, v = .ref a ∧ SqL K H a vs ∧ Paired (k.R H) vs xs, fun xs => .list (xs.map k.pd), fun H v x ⟨a, vs, e, h, p⟩ => e ▸ .lst h (dpAll k p),
  fun l m => evAll k l m, fun l => layAll k l, k.d + 1, fun l => Nat.succ_le_succ (depAll k l)⟩
def tupK (k : DK K α) : DK K (List α) := ⟨fun H v xs => ∃ a vs, v = .ref a ∧ SqT K H a vs ∧ Paired (k.R H) vs xs, fun xs => .tuple (xs.map k.pd), fun H v x ⟨a, vs, e, h, p⟩ => e ▸ .tup h (dpAll k p),
  fun l m => evAll k l m, fun l => layAll k l, k.d + 1, fun l => Nat.succ_le_succ (depAll k l)⟩
theorem paired_map {β : Type} {F : V → β → Prop} (f : β → V) (h : ∀ x, F (f x) x) : ∀ l : List β, Paired F (l.map f) l
  | [] => .nil
  | x :: l => .cons (h x) (paired_map f h l)
theorem intsK (H : Hp) (l : List Int) : Paired ((intK K).R H) (l.map V.int) l := paired_map (β := Int) V.int (fun _ => rfl) l
theorem boolsK (H : Hp) (l : List Bool) : Paired ((boolK K).R H) (l.map V.bl) l := paired_map (β := Bool) V.bl (fun _ => rfl) l
theorem shK (k : DK K α) (hd : k.d ≤ 64) (x : α) : SeqAt.shaped (k.pd x) = true := by
  unfold SeqAt.shaped
  rw [k.lay, Bool.true_and]
  exact decide_eq_true (Nat.le_trans (k.dep x) hd)
theorem dNeD {X : Cx} (K : PySem.W.Frag) (hu : X.A.units + 64 < cLine) (hK : X.K = K := by rfl) : OpR X (compareOp .NotEq) (rNeD K) := by subst hK; exact op_neD hu
variable {Q : VK} {H : Hp}
theorem rv_eqK (k : DK K α) {u v : V} {x y : α} (hx : k.R H u x) (hy : k.R H v y) (q : Q (.bl (decide (x = y))) H) (hd : k.d ≤ 64 := by exact Nat.le_of_ble_eq_true rfl) : rEqD K u v H Q :=
  ⟨_, _, k.dp _ _ _ hx, k.dp _ _ _ hy, shK k hd x, shK k hd y, by rw [k.ev]; exact q⟩
theorem rv_neK (k : DK K α) {u v : V} {x y : α} (hx : k.R H u x) (hy : k.R H v y) (q : Q (.bl (!decide (x = y))) H) (hd : k.d ≤ 64 := by exact Nat.le_of_ble_eq_true rfl) : rNeD K u v H Q :=
  ⟨_, _, k.dp _ _ _ hx, k.dp _ _ _ hy, shK k hd x, shK k hd y, by rw [k.ev]; exact q⟩
end
section
variable {σ : L2.St} {H : Hp} {Q : VK} {D : Ends} {td ty tv : TE} {v y : V} {a : Addr}
theorem rd_dget (q : td σ H fun x H1 => ty σ H1 fun y H2 => ∃ a v, x = .ref a ∧ DGet H2 a y (some v) ∧ Q v H2) : tDGet td ty σ H Q := q
theorem rd_din (q : ty σ H fun y H1 => td σ H1 fun x H2 => ∃ a o, x = .ref a ∧ DGet H2 a y o ∧ Q (.bl o.isSome) H2) : tDIn ty td σ H Q := q
theorem rd_dnin (q : ty σ H fun y H1 => td σ H1 fun x H2 => ∃ a o, x = .ref a ∧ DGet H2 a y o ∧ Q (.bl (!o.isSome)) H2) : tDNotIn ty td σ H Q := q
theorem rd_dput (q : tv σ H fun v H1 => td σ H1 fun x H2 => ty σ H2 fun y H3 => ∃ a H4, x = .ref a ∧ DPut H3 a y v H4 ∧ D.nx σ H4) : sDPut td ty tv D σ H := q
theorem rd_dnewK (q : ∀ p, H p = none → Q (.ref p) (upd H p (.dK []))) : tDNewK σ H Q := q
theorem rd_dnewT (q : ∀ p, H p = none → Q (.ref p) (upd H p (.dT []))) : tDNewT σ H Q := q
theorem rv_dget {R : V → Prop} (h : DGet H a y (some v)) (q : R v) : ∃ a' v', V.ref a = .ref a' ∧ DGet H a' y (some v') ∧ R v' := ⟨a, v, rfl, h, q⟩
theorem rv_din {o : Option V} {R : Option V → Prop} (h : DGet H a y o) (q : R o) : ∃ a' o', V.ref a = .ref a' ∧ DGet H a' y o' ∧ R o' := ⟨a, o, rfl, h, q⟩
theorem rv_dput {H' : Hp} {R : Hp → Prop} (h : DPut H a y v H') (q : R H') : ∃ a' H4, V.ref a = .ref a' ∧ DPut H a' y v H4 ∧ R H4 := ⟨a, H', rfl, h, q⟩
theorem dg_int {kvs : List (Key × V)} {i : Int} {o : Option V} (e : H a = some (.dK kvs)) (h : valV kvs (.inl i) = o) : DGet H a (.int i) o := h ▸ DGet.k (k := .inl i) e
theorem dg_str {kvs : List (Key × V)} {i : Str} {o : Option V} (e : H a = some (.dK kvs)) (h : valV kvs (.inr i) = o) : DGet H a (.str i) o := h ▸ DGet.k (k := .inr i) e
theorem dpu_int {kvs : List (Key × V)} {i : Int} (e : H a = some (.dK kvs)) (hl : kvs.length < sizeLine) : DPut H a (.int i) v (upd H a (.dK (putK kvs (.inl i) v))) := DPut.k (k := .inl i) e hl
end
theorem walk_enumT {K : PySem.W.Frag} {a : Addr} {xs : List V} : Walk (Itet K a) xs.length (fun H => SqT K H a xs) (YPair (fun i => some (.int (i : Nat))) (fun i => xs[i]?)) := by
  refine ⟨fun i _ hi q => ⟨xs, xs[i], q, by simp [hi]⟩, fun _ q => ⟨xs, q, Nat.le_refl _⟩, fun i H v H' _ q y => ?_⟩
  obtain ⟨T, x, h1, h2, h3, h4⟩ := y
  exact ⟨T, .int (i : Nat), x, h1, h2, h3, rfl, h4 xs q⟩
theorem same_pair {xs ys : Nat → Option V} : ∀ i H' x H2, YPair xs ys i H' x H2 → Same H' H2 := fun i H' x H2 y => by
  obtain ⟨T, u, v, _, h, e, _⟩ := y
  rw [e]; exact same_upd h
theorem rep_one {α : Type} (n : Nat) (x : α) (k : Int) (h : k = (n : Int)) : (List.replicate k.toNat [x]).flatten = List.replicate n x := by
  subst h
  rw [Int.toNat_natCast]
  induction n with
  | zero => rfl
  | succ n ih => rw [List.replicate_succ, List.flatten_cons, ih, List.replicate_succ]; rfl
end D0
namespace D0
/-- the first arc from x to a number that is alive -/
def firstA (as : List (Nat × Nat)) (al : List Bool) (x : Nat) : Option Nat := as.findIdx? fun p => decide (p.1 = x) && al.getD p.2 false
def onwA (n : Nat) (as : List (Nat × Nat)) (al : List Bool) : List (Option Nat) := (List.range n).map (firstA as al)
def stepA (n : Nat) (as : List (Nat × Nat)) (al : List Bool) : List Bool := (onwA n as al).map Option.isSome
def iterA (n : Nat) (as : List (Nat × Nat)) : Nat → List Bool
  | 0 => List.replicate n true
  | k + 1 => stepA n as (iterA n as k)
theorem stepA_len (n : Nat) (as : List (Nat × Nat)) (al : List Bool) : (stepA n as al).length = n := by
  unfold stepA onwA; rw [List.length_map, List.length_map, List.length_range]
theorem stepA_get {n : Nat} {as : List (Nat × Nat)} {al : List Bool} {x : Nat} (h : x < n) : (stepA n as al).getD x false = (firstA as al x).isSome := by
  unfold stepA onwA
  rw [List.getD_eq_getElem?_getD, List.getElem?_map, List.getElem?_map, List.getElem?_range h]; rfl
theorem stepA_out {n : Nat} {as : List (Nat × Nat)} {al : List Bool} {x : Nat} (h : ¬ x < n) : (stepA n as al).getD x false = false := by
  rw [List.getD_eq_getElem?_getD, List.getElem?_eq_none (by rw [stepA_len]; omega)]; rfl
theorem firstA_some {as : List (Nat × Nat)} {al : List Bool} {x k : Nat} (h : firstA as al x = some k) : ∃ e, as[k]? = some (x, e) ∧ al.getD e false = true := by
  unfold firstA at h
  obtain ⟨hk, hp, _⟩ := List.findIdx?_eq_some_iff_getElem.mp h
  rw [Bool.and_eq_true, decide_eq_true_eq] at hp
  exact ⟨as[k].2, by rw [List.getElem?_eq_getElem hk, ← hp.1], hp.2⟩
theorem firstA_isSome {as : List (Nat × Nat)} {al : List Bool} {x : Nat} : (firstA as al x).isSome = true ↔ ∃ e, (x, e) ∈ as ∧ al.getD e false = true := by
  constructor
  · intro h
    obtain ⟨k, hk⟩ := Option.isSome_iff_exists.mp h
    obtain ⟨e, h1, h2⟩ := firstA_some hk
    exact ⟨e, List.mem_of_getElem? h1, h2⟩
  · rintro ⟨e, h1, h2⟩
    unfold firstA
    rw [List.findIdx?_isSome, List.any_eq_true]
    exact ⟨(x, e), h1, by simp only [decide_true, Bool.true_and]; exact h2⟩
/-- below one another -/
def LeB (l m : List Bool) : Prop := ∀ x, l.getD x false = true → m.getD x false = true
theorem stepA_mono {n : Nat} {as : List (Nat × Nat)} {l m : List Bool} (h : LeB l m) : LeB (stepA n as l) (stepA n as m) := by
  intro x hx
  by_cases hn : x < n
  · rw [stepA_get hn] at hx ⊢
    obtain ⟨e, h1, h2⟩ := firstA_isSome.mp hx
    exact firstA_isSome.mpr ⟨e, h1, h e h2⟩
  · rw [stepA_out hn] at hx; cases hx
theorem iterA_len (n : Nat) (as : List (Nat × Nat)) : ∀ k, (iterA n as k).length = n
  | 0 => List.length_replicate ..
  | _ + 1 => stepA_len ..
theorem iterA_dec (n : Nat) (as : List (Nat × Nat)) : ∀ k, LeB (iterA n as (k + 1)) (iterA n as k)
  | 0 => by
    intro x hx
    by_cases hn : x < n
    · show (List.replicate n true).getD x false = true
      rw [List.getD_eq_getElem?_getD, List.getElem?_replicate, if_pos hn]; rfl
    · rw [show iterA n as 1 = stepA n as (iterA n as 0) from rfl, stepA_out hn] at hx; cases hx
  | k + 1 => stepA_mono (iterA_dec n as k)
theorem iterA_stays {n : Nat} {as : List (Nat × Nat)} {k : Nat} (h : stepA n as (iterA n as k) = iterA n as k) : ∀ j, iterA n as (k + j) = iterA n as k
  | 0 => rfl
  | j + 1 => by
    show stepA n as (iterA n as (k + j)) = _
    rw [iterA_stays h j, h]
theorem iterA_one {n : Nat} {as : List (Nat × Nat)} {k j : Nat} (h : stepA n as (iterA n as k) = iterA n as k) (h' : stepA n as (iterA n as j) = iterA n as j) : iterA n as k = iterA n as j := by
  rcases Nat.le_total k j with e | e
  · obtain ⟨d, rfl⟩ := Nat.le.dest e
    exact (iterA_stays h d).symm
  · obtain ⟨d, rfl⟩ := Nat.le.dest e
    exact iterA_stays h' d
/-- how many are alive -/
def cntB (l : List Bool) : Nat := (l.filter id).length
theorem cntB_lt : ∀ {l m : List Bool}, l.length = m.length → LeB l m → l ≠ m → cntB l < cntB m
  | [], [], _, _, h => absurd rfl h
  | [], _ :: _, h, _, _ => by simp at h
  | _ :: _, [], h, _, _ => by simp at h
  | x :: l, y :: m, hl, hle, hne => by
    have hx : x = true → y = true := fun h => by simpa [h] using hle 0
    have ht : LeB l m := fun i hi => by simpa using hle (i + 1) (by simpa using hi)
    have hl' : l.length = m.length := by simpa using hl
    by_cases hlm : l = m
    · subst hlm
      cases x <;> cases y <;> simp_all [cntB]
    · have := cntB_lt hl' ht hlm
      cases x <;> cases y <;> simp_all [cntB] <;> omega
theorem cntB_le (l : List Bool) : cntB l ≤ l.length := List.length_filter_le ..
def walkA (as : List (Nat × Nat)) : Nat → Nat → Nat → Prop
  | 0, x, y => x = y
  | k + 1, x, y => ∃ z, (x, z) ∈ as ∧ walkA as k z y
theorem walkA_snoc {as : List (Nat × Nat)} : ∀ {k x y z : Nat}, walkA as k x y → (y, z) ∈ as → walkA as (k + 1) x z
  | 0, _, _, _, h, e => by cases h; exact ⟨_, e, rfl⟩
  | _ + 1, _, _, _, ⟨w, h1, h2⟩, e => ⟨w, h1, walkA_snoc h2 e⟩
theorem walkA_init {as : List (Nat × Nat)} : ∀ {k x z : Nat}, walkA as (k + 1) x z → ∃ y, walkA as k x y ∧ (y, z) ∈ as
  | 0, x, z, ⟨w, h1, h2⟩ => by cases h2; exact ⟨x, rfl, h1⟩
  | k + 1, x, z, ⟨w, h1, h2⟩ => by
    obtain ⟨y, h3, h4⟩ := walkA_init h2
    exact ⟨y, ⟨w, h1, h3⟩, h4⟩
theorem walkA_less {as : List (Nat × Nat)} {k j x y : Nat} (h : walkA as (j + k) x y) : ∃ z, walkA as k x z := by
  induction j generalizing y with
  | zero => exact ⟨y, by rw [Nat.zero_add] at h; exact h⟩
  | succ j ih =>
    rw [show j + 1 + k = (j + k) + 1 by omega] at h
    obtain ⟨z, h1, _⟩ := walkA_init h
    exact ih h1
/-- alive at the k-th step: a walk of k arcs starts here -/
theorem iterA_walk {n : Nat} {as : List (Nat × Nat)} (ok : ∀ p ∈ as, p.1 < n ∧ p.2 < n) : ∀ k x, (iterA n as k).getD x false = true ↔ x < n ∧ ∃ y, walkA as k x y
  | 0, x => by
    show (List.replicate n true).getD x false = true ↔ _
    rw [List.getD_eq_getElem?_getD, List.getElem?_replicate]
    by_cases h : x < n
    · rw [if_pos h]; exact ⟨fun _ => ⟨h, x, rfl⟩, fun _ => rfl⟩
    · rw [if_neg h]; exact ⟨(fun z => by cases z), fun z => absurd z.1 h⟩
  | k + 1, x => by
    show (stepA n as (iterA n as k)).getD x false = true ↔ _
    by_cases h : x < n
    · rw [stepA_get h, firstA_isSome]
      constructor
      · rintro ⟨e, h1, h2⟩
        obtain ⟨_, y, h3⟩ := (iterA_walk ok k e).mp h2
        exact ⟨h, y, e, h1, h3⟩
      · rintro ⟨_, y, e, h1, h2⟩
        exact ⟨e, h1, (iterA_walk ok k e).mpr ⟨(ok _ h1).2, y, h2⟩⟩
    · rw [stepA_out h]; exact ⟨(fun z => by cases z), fun z => absurd z.1 h⟩
def nxtA (as : List (Nat × Nat)) (al : List Bool) (x : Nat) : Nat := match firstA as al x with | some k => (as.getD k (0, 0)).2 | none => x
def seqA (as : List (Nat × Nat)) (al : List Bool) (at0 : Nat) : Nat → Nat
  | 0 => at0
  | i + 1 => nxtA as al (seqA as al at0 i)
/-- what find_ring returns -/
def RingOut (n : Nat) (as : List (Nat × Nat)) (o : Option (List Nat)) : Prop := ∃ k, stepA n as (iterA n as k) = iterA n as k ∧ match o with
  | none => ∀ x, x < n → (iterA n as k).getD x false = false
  | some ks => ∃ at0, at0 < n ∧ (iterA n as k).getD at0 false = true ∧ (∀ y, y < at0 → (iterA n as k).getD y false = false) ∧ ∃ j m, j < m ∧ seqA as (iterA n as k) at0 m = seqA as (iterA n as k) at0 j ∧
      (∀ i i', i < i' → i' < m → seqA as (iterA n as k) at0 i ≠ seqA as (iterA n as k) at0 i') ∧ ks = (List.range' j (m - j)).map fun i => (firstA as (iterA n as k) (seqA as (iterA n as k) at0 i)).getD 0
theorem RingOut.one {n : Nat} {as : List (Nat × Nat)} {o o' : Option (List Nat)} (h : RingOut n as o) (h' : RingOut n as o') : o = o' := by
  obtain ⟨k, hk, h⟩ := h
  obtain ⟨k', hk', h'⟩ := h'
  have e := iterA_one hk' hk
  rw [e] at h'
  generalize iterA n as k = al at h h'
  cases o with
  | none => cases o' with
    | none => rfl
    | some ks =>
      obtain ⟨a, ha, ht, _⟩ := h'
      rw [h a ha] at ht; cases ht
  | some ks => cases o' with
    | none =>
      obtain ⟨a, ha, ht, _⟩ := h
      rw [h' a ha] at ht; cases ht
    | some ks' =>
      obtain ⟨a, ha, ht, hf, j, m, jm, hm, hd, rfl⟩ := h
      obtain ⟨a', ha', ht', hf', j', m', jm', hm', hd', rfl⟩ := h'
      have ea : a = a' := by
        rcases Nat.lt_trichotomy a a' with z | z | z
        · rw [hf' a z] at ht; cases ht
        · exact z
        · rw [hf a' z] at ht'; cases ht'
      subst ea
      have em : m = m' := by
        rcases Nat.lt_trichotomy m m' with z | z | z
        · exact absurd hm.symm (hd' j m jm z)
        · exact z
        · exact absurd hm'.symm (hd j' m' jm' z)
      subst em
      have ej : j = j' := by
        rcases Nat.lt_trichotomy j j' with z | z | z
        · exact absurd (hm.symm.trans hm') (hd j j' z jm')
        · exact z
        · exact absurd (hm'.symm.trans hm) (hd j' j z jm)
      subst ej
      rfl
/-- everything on the way is alive -/
theorem seqA_alive {n : Nat} {as : List (Nat × Nat)} {al : List Bool} (hk : stepA n as al = al) {at0 : Nat} (h : at0 < n) (ok : ∀ p ∈ as, p.1 < n ∧ p.2 < n) (ha : al.getD at0 false = true) : ∀ i, seqA as al at0 i < n ∧ al.getD (seqA as al at0 i) false = true ∧
    ∃ a, firstA as al (seqA as al at0 i) = some a ∧ as[a]? = some (seqA as al at0 i, seqA as al at0 (i + 1))
  | 0 => by
    have h1 : (firstA as al at0).isSome = true := by rw [← stepA_get h, hk]; exact ha
    obtain ⟨a, e⟩ := Option.isSome_iff_exists.mp h1
    obtain ⟨z, h2, h3⟩ := firstA_some e
    refine ⟨h, ha, a, e, ?_⟩
    show as[a]? = some (at0, nxtA as al at0)
    unfold nxtA
    rw [e, h2]
    show some (at0, z) = some (at0, (as.getD a (0, 0)).2)
    rw [List.getD_eq_getElem?_getD, h2]; rfl
  | i + 1 => by
    obtain ⟨h0, h1, a, e, h2⟩ := seqA_alive hk h ok ha i
    obtain ⟨z, h3, h4⟩ := firstA_some e
    rw [h2] at h3
    cases h3
    have hn : seqA as al at0 (i + 1) < n := (ok _ (List.mem_of_getElem? h2)).2
    have h5 : (firstA as al (seqA as al at0 (i + 1))).isSome = true := by rw [← stepA_get hn, hk]; exact h4
    obtain ⟨a', e'⟩ := Option.isSome_iff_exists.mp h5
    obtain ⟨z', h6, h7⟩ := firstA_some e'
    refine ⟨hn, h4, a', e', ?_⟩
    show as[a']? = some (_, nxtA as al (seqA as al at0 (i + 1)))
    unfold nxtA
    rw [e', h6]
    show some (_, z') = some (_, (as.getD a' (0, 0)).2)
    rw [List.getD_eq_getElem?_getD, h6]; rfl
/-- a ring of arcs, as the document says -/
structure IsRing (n : Nat) (as : List (Nat × Nat)) (ks : List Nat) : Prop where
  pos : 0 < ks.length
  into : ∀ k ∈ ks, k < as.length
  next : ∀ i, (h : i + 1 < ks.length) → (as.getD (ks[i]'(by omega)) (0, 0)).2 = (as.getD ks[i + 1] (0, 0)).1
  closes : (as.getD (ks.getD (ks.length - 1) 0) (0, 0)).2 = (as.getD (ks.getD 0 0) (0, 0)).1
  nodup : (ks.map fun k => (as.getD k (0, 0)).1).Nodup
theorem RingOut.ring {n : Nat} {as : List (Nat × Nat)} {ks : List Nat} (ok : ∀ p ∈ as, p.1 < n ∧ p.2 < n) (h : RingOut n as (some ks)) : IsRing n as ks ∧ ∀ k, ∃ x y, x < n ∧ walkA as k x y := by
  obtain ⟨k, hk, a, ha, ht, hf, j, m, jm, hm, hd, rfl⟩ := h
  have A := seqA_alive hk ha ok ht
  generalize hal : iterA n as k = al at *
  have hget : ∀ i, ∃ z, (firstA as al (seqA as al a i)).getD 0 = z ∧ z < as.length ∧ as.getD z (0, 0) = (seqA as al a i, seqA as al a (i + 1)) := fun i => by
    obtain ⟨_, _, z, e, h2⟩ := A i
    exact ⟨z, by rw [e]; rfl, (List.getElem?_eq_some_iff.mp h2).1, by rw [List.getD_eq_getElem?_getD, h2]; rfl⟩
  have hlen : ((List.range' j (m - j)).map fun i => (firstA as al (seqA as al a i)).getD 0).length = m - j := by rw [List.length_map, List.length_range']
  have hat : ∀ i, (h : i < m - j) → ((List.range' j (m - j)).map fun i => (firstA as al (seqA as al a i)).getD 0)[i]'(by rw [hlen]; exact h) = (firstA as al (seqA as al a (j + i))).getD 0 := fun i h => by
    rw [List.getElem_map, List.getElem_range']; simp
  refine ⟨⟨by rw [hlen]; omega, ?_, ?_, ?_, ?_⟩, ?_⟩
  · intro k hk
    obtain ⟨i, _, rfl⟩ := List.mem_map.mp hk
    obtain ⟨z, e, h1, _⟩ := hget i
    rw [e]; exact h1
  · intro i h
    rw [hlen] at h
    rw [hat i (by omega), hat (i + 1) h]
    obtain ⟨z, e, _, h2⟩ := hget (j + i)
    obtain ⟨z', e', _, h2'⟩ := hget (j + (i + 1))
    rw [e, e', h2, h2']; rfl
  · have gd : ∀ i, i < m - j → ((List.range' j (m - j)).map fun i => (firstA as al (seqA as al a i)).getD 0).getD i 0 = (firstA as al (seqA as al a (j + i))).getD 0 := fun i h => by
      rw [List.getD_eq_getElem?_getD, List.getElem?_eq_getElem (by rw [hlen]; exact h), Option.getD_some, hat i h]
    rw [hlen, gd (m - j - 1) (by omega), gd 0 (by omega)]
    obtain ⟨z, e, _, h2⟩ := hget (j + (m - j - 1))
    obtain ⟨z', e', _, h2'⟩ := hget (j + 0)
    rw [e, e', h2, h2', show j + (m - j - 1) + 1 = m by omega]
    exact hm
  · rw [List.map_map]
    refine List.Pairwise.map (R := fun x y => x < y ∧ y < m) _ ?_ ?_
    · intro x y h
      obtain ⟨z, e, _, h2⟩ := hget x
      obtain ⟨z', e', _, h2'⟩ := hget y
      show (as.getD ((firstA as al (seqA as al a x)).getD 0) (0, 0)).1 ≠ (as.getD ((firstA as al (seqA as al a y)).getD 0) (0, 0)).1
      rw [e, e', h2, h2']
      exact hd x y h.1 h.2
    · refine List.Pairwise.imp_of_mem ?_ List.pairwise_lt_range'
      intro x y hx hy hxy
      have := List.mem_range'_1.mp hy
      exact ⟨hxy, by omega⟩
  · intro i
    obtain ⟨_, h1, _⟩ := A 0
    have h2 : (iterA n as (k + i)).getD a false = true := by rw [iterA_stays (hal ▸ hk) i, hal]; exact ht
    obtain ⟨_, y, h3⟩ := (iterA_walk ok (k + i) a).mp h2
    rw [Nat.add_comm] at h3
    obtain ⟨z, h4⟩ := walkA_less (j := k) (k := i) (by rw [Nat.add_comm k i]; exact h3)
    exact ⟨a, z, ha, h4⟩
theorem RingOut.never {n : Nat} {as : List (Nat × Nat)} (ok : ∀ p ∈ as, p.1 < n ∧ p.2 < n) (h : RingOut n as none) : ∃ k, ∀ x y, x < n → ¬ walkA as k x y := by
  obtain ⟨k, hk, h⟩ := h
  refine ⟨k, fun x y hx w => ?_⟩
  have := (iterA_walk ok k x).mpr ⟨hx, y, w⟩
  rw [h x hx] at this
  cases this
end D0
namespace D0
open PySem PySem.Spec PyProof.Rows L2
def row2 (p : Nat × Nat) : List Int := [(p.1 : Int), (p.2 : Int)]
def optV : Option Nat → V
  | none => .non
  | some k => .int (k : Int)
def OkA (n : Nat) (as : List (Nat × Nat)) : Prop := ∀ p ∈ as, p.1 < n ∧ p.2 < n
def ArcsAt (H : Hp) (a : Addr) (as : List (Nat × Nat)) : Prop := ∃ vs, H a = some (.tup vs) ∧ RowsAt H vs (as.map row2)
theorem ArcsAt.ts {H H' : Hp} {a : Addr} {as : List (Nat × Nat)} (x : ArcsAt H a as) (t : TS H H') : ArcsAt H' a as := by
  obtain ⟨vs, e, r⟩ := x
  exact ⟨vs, t _ _ e, r.ts t⟩
theorem ArcsAt.same {H H' : Hp} {a : Addr} {as : List (Nat × Nat)} (x : ArcsAt H a as) (t : Same H H') : ArcsAt H' a as := x.ts (.of_same t)
theorem firstA_snoc (l : List (Nat × Nat)) (p : Nat × Nat) (al : List Bool) (x : Nat) : firstA (l ++ [p]) al x = (firstA l al x).or (if p.1 = x ∧ al.getD p.2 false = true then some l.length else none) := by
  unfold firstA
  rw [List.findIdx?_append]
  congr 1
  rw [List.findIdx?_cons]
  by_cases c : p.1 = x ∧ al.getD p.2 false = true
  · rw [if_pos c, if_pos (by rw [Bool.and_eq_true, decide_eq_true_eq]; exact c)]
    show Option.map _ (some 0) = _
    rw [Option.map_some, Nat.zero_add]
  · rw [if_neg c, if_neg (by rw [Bool.and_eq_true, decide_eq_true_eq]; exact c)]
    rfl
theorem onwA_len (n : Nat) (as : List (Nat × Nat)) (al : List Bool) : (onwA n as al).length = n := by unfold onwA; rw [List.length_map, List.length_range]
theorem onwA_get {n : Nat} {as : List (Nat × Nat)} {al : List Bool} {x : Nat} (h : x < n) : (onwA n as al)[x]? = some (firstA as al x) := by
  unfold onwA; rw [List.getElem?_map, List.getElem?_range h]; rfl
theorem onwA_snoc {n : Nat} {l : List (Nat × Nat)} {s e : Nat} {al : List Bool} (hs : s < n) : onwA n (l ++ [(s, e)]) al = if firstA l al s = none ∧ al.getD e false = true then (onwA n l al).set s (some l.length) else onwA n l al := by
  refine List.ext_getElem? fun i => ?_
  by_cases hi : i < n
  · rw [onwA_get hi, firstA_snoc]
    by_cases c : firstA l al s = none ∧ al.getD e false = true
    · rw [if_pos c, List.getElem?_set, onwA_len]
      by_cases h : s = i
      · subst h
        rw [if_pos rfl, if_pos hs, c.1, if_pos ⟨rfl, c.2⟩]; rfl
      · rw [if_neg h, onwA_get hi, if_neg (fun z => h z.1), Option.or_none]
    · rw [if_neg c, onwA_get hi]
      by_cases h : s = i ∧ al.getD e false = true
      · rw [if_pos h]
        obtain ⟨rfl, h2⟩ := h
        cases hf : firstA l al s with
        | none => exact absurd ⟨hf, h2⟩ c
        | some k => rfl
      · rw [if_neg h, Option.or_none]
  · rw [List.getElem?_eq_none (by rw [onwA_len]; omega), List.getElem?_eq_none]
    split
    · rw [List.length_set, onwA_len]; omega
    · rw [onwA_len]; omega
theorem onwA_nil (n : Nat) (al : List Bool) : onwA n [] al = List.replicate n none := by
  unfold onwA
  rw [show (firstA [] al) = fun _ => none from rfl, List.map_const', List.length_range]
theorem at_opt {l : List (Option Nat)} {x : Nat} {o : Option Nat} (h : l[x]? = some o) : atI (l.map optV) (x : Int) = some (optV o) := atI_nat (by rw [List.getElem?_map, h]; rfl)
theorem at_bl {al : List Bool} {x : Nat} (h : x < al.length) : atI (al.map V.bl) (x : Int) = some (.bl (al.getD x false)) := atI_nat (by
  rw [List.getElem?_map, List.getElem?_eq_getElem h, List.getD_eq_getElem?_getD, List.getElem?_eq_getElem h]; rfl)
theorem setm_opt (l : List (Option Nat)) (j k : Nat) : (l.map optV).set j (.int (k : Int)) = (l.set j (some k)).map optV := by rw [List.map_set]; rfl
theorem optV_some (o : Option Nat) : (!decide (optV o = V.non)) = o.isSome := by
  cases o with
  | none => rfl
  | some k => rfl
theorem step_list (n : Nat) (as : List (Nat × Nat)) (al : List Bool) : ((List.range ((onwA n as al).map optV).length).filter fun _ => true).map (fun i => V.bl (firstA as al i).isSome) = (stepA n as al).map V.bl := by
  rw [ftrue, List.length_map, onwA_len]
  unfold stepA onwA
  rw [List.map_map, List.map_map]
  rfl
theorem rd_whl {c : TT} {tb : L2.TS} {D : Ends} {σ : L2.St} {H : Hp} (W : Nat → L2.St → Hp → Prop) (m : Nat) (h0 : W m σ H)
    (hs : ∀ m σ H, W m σ H → c σ H fun b H1 => if b = true then ∃ N : L2.St → Hp → Prop, (∀ σ' H', N σ' H' → ∃ m', m' < m ∧ W m' σ' H') ∧ tb { D with nx := N, ct := N, bk := D.nx } σ H1 else D.nx σ H1) : tWhile c tb D σ H := ⟨W, ⟨m, h0⟩, hs⟩
theorem rv_notNany {x : V} {H : Hp} {Q : VK} (q : Q (.bl (!decide (x = .non))) H) : rNotN x .non H Q := ⟨rfl, q⟩
theorem rv_isNany {x : V} {H : Hp} {Q : VK} (q : Q (.bl (decide (x = .non))) H) : rIsN x .non H Q := ⟨rfl, q⟩
end D0
namespace D0
open PySem PySem.Spec PyProof.Rows L2
theorem pigeon : ∀ (n : Nat) (l : List Nat), l.Nodup → (∀ x ∈ l, x < n) → l.length ≤ n
  | 0, l, _, h => by
    cases l with
    | nil => exact Nat.le_refl _
    | cons x r => exact absurd (h x (List.mem_cons_self ..)) (by omega)
  | n + 1, l, hd, h => by
    have h2 := pigeon n (l.erase n) (hd.erase n) fun x hx => by
      have h3 := (hd.mem_erase_iff).mp hx
      have := h x h3.2
      have := h3.1
      omega
    by_cases hm : n ∈ l
    · rw [List.length_erase_of_mem hm] at h2; omega
    · rw [List.erase_of_not_mem hm] at h2; omega
theorem pigeon_fn {n m : Nat} (f : Nat → Nat) (hd : ∀ i i', i < i' → i' < m → f i ≠ f i') (h : ∀ i, i < m → f i < n) : m ≤ n := by
  have := pigeon n ((List.range m).map f) (by
    refine List.Pairwise.map (R := fun x y => x < y ∧ y < m) _ (fun x y h => hd x y h.1 h.2) ?_
    refine List.Pairwise.imp_of_mem ?_ List.pairwise_lt_range
    intro x y _ hy hxy
    exact ⟨hxy, List.mem_range.mp hy⟩) (fun x hx => by
    obtain ⟨i, hi, rfl⟩ := List.mem_map.mp hx
    exact h i (List.mem_range.mp hi))
  rwa [List.length_map, List.length_range] at this
theorem drop_range_map {α : Type} (f : Nat → α) (m j : Nat) (h : j ≤ m) : ((List.range m).map f).drop j = (List.range' j (m - j)).map f := by
  refine List.ext_getElem (by simp) fun i h1 h2 => ?_
  rw [List.getElem_drop, List.getElem_map, List.getElem_map, List.getElem_range, List.getElem_range']
  congr 1
  omega
def RingV (H : Hp) (v : V) : Option (List Nat) → Prop
  | none => v = .non
  | some ks => ∃ p, v = .ref p ∧ H p = some (.tup (ks.map fun k : Nat => V.int (k : Int)))
theorem RingV.same {H H' : Hp} {v : V} {o : Option (List Nat)} (h : RingV H v o) (s : Same H H') : RingV H' v o := by
  cases o with
  | none => exact h
  | some ks =>
    obtain ⟨p, e, e2⟩ := h
    exact ⟨p, e, s _ _ e2⟩
end D0
namespace D0
open PySem PySem.Spec PyProof.Rows L2
theorem inV_ints (x : Int) : ∀ l : List Int, inV (.int x) (l.map V.int) = decide (x ∈ l)
  | [] => rfl
  | y :: l => by
    show ((y == x) || inV (.int x) (l.map V.int)) = _
    rw [inV_ints x l]
    by_cases h : y = x
    · subst h; simp
    · have h' : ¬ x = y := fun e => h e.symm
      simp [h, h']
theorem flat_ints : ∀ l : List Int, (l.map V.int).all flatV = true
  | [] => rfl
  | _ :: l => flat_ints l
def natsV (l : List Nat) : List V := l.map fun k : Nat => V.int (k : Int)
theorem natsV_eq (l : List Nat) : natsV l = (l.map fun k : Nat => (k : Int)).map V.int := by unfold natsV; rw [List.map_map]; rfl
theorem natsV_len (l : List Nat) : (natsV l).length = l.length := by unfold natsV; rw [List.length_map]
theorem natsV_get (l : List Nat) (i : Nat) : (natsV l)[i]? = l[i]?.map fun k : Nat => V.int (k : Int) := by unfold natsV; rw [List.getElem?_map]
theorem at_nats {l : List Nat} {i x : Nat} (h : l[i]? = some x) : atI (natsV l) (i : Int) = some (.int (x : Int)) := atI_nat (by rw [natsV_get, h]; rfl)
theorem mem_cast {x : Nat} {l : List Nat} : ((x : Int) ∈ l.map fun k : Nat => (k : Int)) ↔ x ∈ l := by
  rw [List.mem_map]
  exact ⟨fun ⟨y, h, e⟩ => by rw [show x = y by omega]; exact h, fun h => ⟨x, h, rfl⟩⟩
section
variable {K : PySem.W.Frag} {H : Hp} {Q : VK} {σ : L2.St} {ta : TE}
theorem rv_inI {p : Addr} {l : List Int} {x : Int} (h : SqL K H p (l.map V.int)) (q : Q (.bl (decide (x ∈ l))) H) : rInD K false (.int x) (.ref p) H Q := rv_inL h rfl (flat_ints l) (by rw [inV_ints]; exact q)
theorem rv_inN {p : Addr} {l : List Nat} {x : Nat} (h : SqL K H p (natsV l)) (q : Q (.bl (decide (x ∈ l))) H) : rInD K false (.int (x : Int)) (.ref p) H Q := by
  rw [natsV_eq] at h
  refine rv_inI h ?_
  rw [decide_eq_decide.mpr (mem_cast (x := x) (l := l))]
  exact q
theorem rd_lenSet (q : ta σ H fun x H1 => ∃ (l : Addr) (ns : List Int), x = .ref l ∧ SqL K H1 l (ns.map V.int) ∧ ns.Nodup ∧ ns.length ≤ 4000 ∧ Q (.int (ns.length : Nat)) H1) : RZ.tLenSetI K ta σ H Q := q
theorem dLenSet {X : Cx} (K : PySem.W.Frag) {a : Expr} {ta : TE} {p p2 q pos : Pos} (hg : Gl X "len") (hm : X.mg "len" = none) (hg2 : Gl X "set") (hm2 : X.mg "set" = none) (ha : PE X a ta) (hc : X.calm = true := by rfl) (hK : X.K = K := by rfl)
    (na : starEach [a] X.env = (false, eval a X.env) :: starEach [] X.env := by rfl) : PE X (.Call (.Name "len" p) [.Call (.Name "set" p2) [a] [] q] [] pos) (RZ.tLenSetI K ta) := by subst hK; exact RZ.pe_lenSetI hg hm hg2 hm2 ha hc na
theorem dCatA {X : Cx} (K : PySem.W.Frag) (hK : X.K = K := by rfl) : OpR X (binaryOp .Add) (rCatA K) := by subst hK; exact op_catA
theorem rv_catA {a b : Addr} {xs ys : List V} (ha : H a = some (.tup xs)) (hb : H b = some (.tup ys)) (hz : xs.length + ys.length ≤ sizeLine) (q : ∀ p H', Same H H' → H' p = some (.tup (xs ++ ys)) → Q (.ref p) H') : rCatA K (.ref a) (.ref b) H Q := by
  refine ⟨a, b, xs, ys, rfl, rfl, SqT.of ha, SqT.of hb, hz, fun e => ?_, fun _ e => ?_, fun _ _ p hp => q p _ (same_upd hp) upd_same⟩
  · subst e; exact q b H (fun _ _ e => e) hb
  · subst e; exact q a H (fun _ _ e => e) (by rw [List.append_nil]; exact ha)
end
/-- a shuffled range, in Nat -/
theorem nats_perm {ms : List V} {l : List Nat} (p : ms.Perm (natsV l)) : ∃ l' : List Nat, ms = natsV l' ∧ l'.Perm l := by
  obtain ⟨ss, h, q⟩ := Paired.perm (F := fun v (x : Nat) => v = V.int (x : Int)) p (paired_map (β := Nat) (fun x : Nat => V.int (x : Int)) (fun _ => rfl) l)
  exact ⟨ss, Paired.fn (fun x : Nat => V.int (x : Int)) h, q⟩
theorem rg_nats (n : Nat) : rgV 0 (n : Int) = natsV (List.range n) := by rw [rg_ints, natsV_eq]
theorem filter_len_eq {α : Type} (p : α → Bool) : ∀ l : List α, (l.filter p).length = l.length → l.filter p = l
  | [], _ => rfl
  | x :: l, h => by
    rw [List.filter_cons] at h ⊢
    by_cases hx : p x = true
    · rw [if_pos hx] at h ⊢
      rw [filter_len_eq p l (by simpa using h)]
    · rw [if_neg hx] at h
      have := List.length_filter_le p l
      simp at h
      omega
/-- filtering the turns and taking the items is filtering the items -/
theorem range_filter_map {α β : Type} (l : List α) (d : α) (kp : α → Bool) (f : α → β) : ((List.range l.length).filter fun i => kp (l.getD i d)).map (fun i => f (l.getD i d)) = (l.filter kp).map f := by
  have e : l = (List.range l.length).map fun i => l.getD i d := by
    refine List.ext_getElem (by simp) fun i h1 h2 => ?_
    rw [List.getElem_map, List.getElem_range, List.getD_eq_getElem?_getD, List.getElem?_eq_getElem h1]; rfl
  conv => rhs; rw [e]
  rw [List.filter_map, List.map_map]
  rfl
end D0
namespace D0
open PySem PySem.Spec PyProof.Rows L2
theorem Paired.set {α β : Type} {F : α → β → Prop} : ∀ {l : List α} {m : List β} {x : α} {y : β} (i : Nat), Paired F l m → F x y → Paired F (l.set i x) (m.set i y)
  | _, _, _, _, _, .nil, _ => .nil
  | _, _, _, _, 0, .cons _ t, h => .cons h t
  | _, _, _, _, i + 1, .cons h0 t, h => .cons h0 (Paired.set i t h)
theorem Paired.erase {α β : Type} {F : α → β → Prop} : ∀ {l : List α} {m : List β} (i : Nat), Paired F l m → Paired F (l.eraseIdx i) (m.eraseIdx i)
  | _, _, _, .nil => .nil
  | _, _, 0, .cons _ t => t
  | _, _, i + 1, .cons h0 t => .cons h0 (Paired.erase i t)
theorem Paired.drop {α β : Type} {F : α → β → Prop} : ∀ {l : List α} {m : List β} (i : Nat), Paired F l m → Paired F (l.drop i) (m.drop i)
  | _, _, 0, h => h
  | _, _, _ + 1, .nil => .nil
  | _, _, i + 1, .cons _ t => Paired.drop i t
theorem map_eraseIdx {α β : Type} (f : α → β) : ∀ (l : List α) (i : Nat), (l.map f).eraseIdx i = (l.eraseIdx i).map f
  | [], _ => rfl
  | _ :: _, 0 => rfl
  | x :: l, i + 1 => by
    show f x :: (l.map f).eraseIdx i = f x :: (l.eraseIdx i).map f
    rw [map_eraseIdx f l i]
theorem mem_eraseIdx' {α : Type} : ∀ (l : List α) (i : Nat) (x : α), x ∈ l.eraseIdx i → x ∈ l
  | [], _, _, h => h
  | _ :: _, 0, _, h => List.mem_cons_of_mem _ h
  | y :: l, i + 1, x, h => by
    rcases List.mem_cons.mp (show x ∈ y :: l.eraseIdx i from h) with h | h
    · rw [h]; exact List.mem_cons_self ..
    · exact List.mem_cons_of_mem _ (mem_eraseIdx' l i x h)
end D0
namespace D0
open PySem PySem.Spec PyProof.Rows L2
section
variable {X : Cx} {CX : CXT} {n : Nat} {C f : Addr} {fd : FuncData} {ps : List Str} {sp : Sp} {E : XK}
theorem run_own {pins : List (Addr × Obj)} {σ : L2.St} {H : Hp} {s : Shared} {A : Around} {Q : VK} {us : List Value} {vs : List V} (F : FnOk X.prog X.w X.K X.mg X.base CX n f fd ps sp) (hb : Binds X.K fd ps []) (hx : Passes CX X E) (sb : L2.Sub X n A)
    (I : Inv X pins σ H s) (r2 : Vals vs us) (h : sp vs H Q E) : wpAny (model X.prog X.w) A (call (.ref f) us) (fun v s' => v ≠ .notImplemented ∧ EP X pins σ Q v s') X.xe s := by
  have e0 : Env0 X.prog X.w X.K X.mg X.base A X.stack s H := by
    have e := I.env0
    exact ⟨by rw [sb.fr]; exact e.frames, e.mod, e.bs, e.bsz, e.funs, e.frf, e.hok, e.bare⟩
  have hl := F.len _ _ _ _ h
  have hlu : us.length = ps.length := by rw [← r2.length]; exact hl
  refine wpAny_call (codeAny_mono (F.run A X.stack s H ⟨us, []⟩ us vs Q E sb.room e0 (by
    have := hb s us I.kIn (by simpa using hlu)
    simpa using this) r2 h) fun r s' hq => ?_)
  cases r with
  | error e => exact hx pins σ H s e s' I hq
  | ok fl =>
    cases fl with
    | ret w =>
      obtain ⟨z, H', I', rz, q⟩ := I.after hq
      refine ⟨?_, z, H', I', rz, q⟩
      intro e
      subst e
      cases z with
      | non => cases rz
      | bl b => cases rz
      | int i => obtain ⟨t, ht⟩ := rz; cases ht
      | str i => obtain ⟨t, ht⟩ := rz; cases ht
      | byt i => obtain ⟨t, ht⟩ := rz; cases ht
      | flt i => obtain ⟨t, ht⟩ := rz; cases ht
      | ref a => cases rz
      | ty t => cases rz
    | next => exact False.elim hq
    | brk => exact False.elim hq
    | cont => exact False.elim hq
theorem rr (a : Addr) : RelV (V.ref a) (Value.ref a) := rfl
theorem not_ni {pins : List (Addr × Obj)} {σ : L2.St} {Q : VK} {v : Value} {s' : Shared} (h : v ≠ .notImplemented ∧ EP X pins σ Q v s') : PySem.W.CmpBack (EP X pins σ Q) v s' := by
  cases v <;> first | exact h.2 | exact absurd rfl h.1
/-- o op y, o an instance of the class at C with such a method -/
def rOwn (C : Addr) (sp : Sp) (E : XK) : R2 := fun x y H Q => (∃ a dx fs, x = .ref a ∧ H a = some (.ins C dx fs)) ∧ sp [x, y] H Q E
/-- both are instances of C -/
def rOwn2 (C : Addr) (sp : Sp) (E : XK) : R2 := fun x y H Q => (∃ a dx fs b dy gs, x = .ref a ∧ H a = some (.ins C dx fs) ∧ y = .ref b ∧ H b = some (.ins C dy gs)) ∧ sp [x, y] H Q E
def rOwnSet (C : Addr) (sp : Sp) (E : XK) : TSet := fun o i v H Q => (∃ a dx fs, o = .ref a ∧ H a = some (.ins C dx fs)) ∧ sp [o, i, v] H (fun _ H' => Q H') E
/-- what is asked of the class for the method at f -/
structure Own (K : PySem.W.Frag) (C : Addr) (m : Str) (f : Addr) : Prop where
  at_ : PySem.W.findIn K (.ref C) m = some (some (.ref f))
  fn : PySem.W.isFn K (.ref f) = true
  fi : PySem.W.fnIn K f = true
  no : PySem.W.noSeq K C = true
  sf : PySem.W.selfFirst K C = true
theorem pe_ownIx {o i : Expr} {pos : Pos} {to ti : TE} (F : FnOk X.prog X.w X.K X.mg X.base CX n f fd ps sp) (hr : Room (n + 1) X.A) (hb : Binds X.K fd ps []) (hx : Passes CX X E) (O : Own X.K C "__getitem__" f) (ho : PE X o to) (hi : PE X i ti)
    (hsl : ∀ x i', subscripted i true (.ref x) i' = runValue (.builtin "lifetime.subscript" ⟨[.ref x, i'], []⟩) := by intro _ _; with_unfolding_all rfl) : PE X (.Subscript o i pos) (tOp (rOwn C sp E) to ti) := by
  refine ⟨fun pins s σ H Q I h => ?_⟩
  refine Subscript_ (binT ho hi I h fun v u s2 x y H2 I2 rx ry q => ?_)
  obtain ⟨⟨a, dx, fs, rfl, ea⟩, q⟩ := q
  obtain rfl : v = Value.ref a := rx
  obtain ⟨mA, J, _⟩ := ins_get I2.hok ea
  obtain ⟨od, J, _⟩ := J.look
  obtain ⟨m, hF⟩ := I2.fr
  refine PySem.W.sub_K hF I2.ok.mod.kin J O.at_ O.fi O.fn ?_ (hsl a u)
  exact wpAny_mono (run_own F hb hx ⟨hr.in1, rfl⟩ I2 (.cons (rr a) (.cons ry .nil)) q) (fun _ _ z => z.2) fun _ _ z => z
theorem set_own (F : FnOk X.prog X.w X.K X.mg X.base CX n f fd ps sp) (hr : Room n X.A) (hb : Binds X.K fd ps []) (hx : Passes CX X E) (O : Own X.K C "__setitem__" f) : PSet X (rOwnSet C sp E) := by
  intro pins s σ H o i v ov iv u Q I ro ri rv h
  obtain ⟨⟨a, dx, fs, rfl, ea⟩, q⟩ := h
  obtain rfl : ov = Value.ref a := ro
  obtain ⟨mA, J, _⟩ := ins_get I.hok ea
  obtain ⟨od, J, _⟩ := J.look
  obtain ⟨m, hF⟩ := I.fr
  refine PySem.W.ksp_setItem hF I.ok.mod.kin J O.no O.at_ O.fn ?_
  exact wpAny_mono (run_own F hb hx ⟨hr, rfl⟩ I (.cons (rr a) (.cons ri (.cons rv .nil))) q) (fun _ _ ⟨_, z, H', I', _, q⟩ => ⟨H', I', q⟩) fun _ _ z => z
theorem op_own {op : Operator} (F : FnOk X.prog X.w X.K X.mg X.base CX n f fd ps sp) (hr : Room n X.A) (hb : Binds X.K fd ps []) (hx : Passes CX X E) (O : Own X.K C (PySem.dunder op.info.2) f) : OpR X (binaryOp op) (rOwn2 C sp E) := by
  intro pins s σ H x y v u Q I rx ry h
  obtain ⟨⟨a, dx, fs, b, dy, gs, rfl, ea, rfl, eb⟩, q⟩ := h
  obtain rfl : v = Value.ref a := rx
  obtain rfl : u = Value.ref b := ry
  obtain ⟨mA, J, _⟩ := ins_get I.hok ea
  obtain ⟨mB, J', _⟩ := ins_get I.hok eb
  obtain ⟨od, J, _⟩ := J.look
  obtain ⟨od', J', _⟩ := J'.look
  obtain ⟨m, hF⟩ := I.fr
  refine PySem.W.binop_K hF I.ok.mod.kin J J'.type O.sf O.at_ O.fn ?_
  exact wpAny_mono (run_own F hb hx ⟨hr, rfl⟩ I (.cons (rr a) (.cons (rr b) .nil)) q) (fun _ _ z => not_ni z) fun _ _ z => z
theorem ip_own {op : Operator} (F : FnOk X.prog X.w X.K X.mg X.base CX n f fd ps sp) (hr : Room n X.A) (hb : Binds X.K fd ps []) (hx : Passes CX X E) (O : Own X.K C (dunderI op.info.2) f) : InOp X op (rOwn C sp E) := by
  intro pins s σ H x y v u Q I rx ry h
  obtain ⟨⟨a, dx, fs, rfl, ea⟩, q⟩ := h
  obtain rfl : v = Value.ref a := rx
  obtain ⟨mA, J, _⟩ := ins_get I.hok ea
  obtain ⟨od, J, _⟩ := J.look
  obtain ⟨m, hF⟩ := I.fr
  refine PySem.W.ksp_inplace hF I.ok.mod.kin J O.sf O.at_ O.fn ?_
  exact wpAny_mono (run_own F hb hx ⟨hr, rfl⟩ I (.cons (rr a) (.cons ry .nil)) q) (fun _ _ z => not_ni z) fun _ _ z => z
/-- C.m is a staticmethod: its record at p, its def at g -/
structure SMet (K : PySem.W.Frag) (C : Addr) (mc : Value) (m : Str) (p g : Addr) : Prop where
  rd : PySem.W.readsIn K C mc = true
  ga : PySem.W.specialIn K (.ref C) "__getattribute__" = some (some (.builtin "type.__getattribute__"))
  at_ : PySem.W.findCls K (.ref C) mc m = some (.get (.builtin "staticmethod.__get__") (.ref p) .none (.ref C))
  rc : ∃ rest, PySem.W.recIn K p "staticmethod" = some (.ref g :: rest)
  kp : PySem.W.keepIn K (.ref g) = true
def tStat (C : Addr) (sp : Sp) (E : XK) (ta : TE) (t : TA) : TE := fun σ H Q => ta σ H fun x H1 => x = .ref C ∧ t σ H1 fun vs H2 => sp vs H2 Q E
theorem getstat_ok {pins : List (Addr × Obj)} {σ : L2.St} {H : Hp} {s : Shared} {mc : Value} {m : Str} {p g : Addr} {A : Around} {E : Value → Shared → Prop} {pl : Sem Bool} {Q : Value × List Value → Shared → Prop} (I : Inv X pins σ H s) (k : SMet X.K C mc m p g)
    (h : ∀ s', Inv X pins σ H s' → Q (.ref g, []) s') : wpAny (model X.prog X.w) A (getMethod (.ref C) m pl) Q E s := by
  obtain ⟨rest, hp⟩ := k.rc
  refine PySem.W.method_cls I.kIn k.ga (PySem.W.cls_bind I.kIn k.rd k.at_ ?_)
  refine wpAny_call (PySem.W.sm_get (s := { s with toks := s.toks + 1 }) I.kIn hp (PySem.W.handed_on rfl ?_))
  exact h _ (I.tok _)
theorem pe_stat {mc : Value} {p g : Addr} {m : Str} {o e : Expr} {es : List Expr} {pos apos : Pos} {ta : TE} {t : TA} {pl : Sem Bool} (he : PE X o ta) (k : SMet X.K C mc m p g) (F : FnOk X.prog X.w X.K X.mg X.base CX n g fd ps sp) (hr : Room n X.A) (hb : Binds X.K fd ps []) (hx : Passes CX X E) (ha : PA X (e :: es) t)
    (hst : starEach (e :: es) X.env = (false, eval e X.env) :: starEach es X.env := by rfl) (hpl : (backTo pos (starEach es X.env)).any (·.1) = false := by rfl)
    (ht : eval (.Call (.Attribute o m apos) (e :: es) [] pos) X.env = (do
      let ov ← eval o X.env
      standAt apos.atName
      let (f, first) ← holding [ov] (getMethod ov m pl)
      callWith pos f first (backTo pos (starEach (e :: es) X.env)) (backToKw pos (keywordEach [] X.env))) := by rfl) :
    PE X (.Call (.Attribute o m apos) (e :: es) [] pos) (tStat C sp E ta t) := by
  refine ⟨fun pins s σ H Q I h => ?_⟩
  refine PySem.W.methodCall_KW (pl := pl) (thn (he.run pins s σ H _ I h) fun u s1 ⟨x, H1, I1, rx, ex, q⟩ => ?_) ht
  subst ex
  obtain rfl : u = Value.ref C := rx
  refine getstat_ok I1 k fun s2 I2 => ?_
  refine PySem.W.callWith_K (h₀ := X.base) I2.ok.mod.kin k.kp (thn (ha.run pos pins s2 σ H1 _ I2 q) fun us s3 ⟨vs, H2, I3, r, q⟩ => ⟨I3.kIn, ?_⟩) hst hpl
  exact wpAny_mono (run_own F hb hx ⟨hr, rfl⟩ I3 r q) (fun _ _ z => z.2) fun _ _ z => z
end
end D0
namespace D0
open PySem PySem.Spec PyProof.Rows L2
structure TabAt (H : Hp) (t : Addr) (rs : List Addr) (tab : List (List Int)) : Prop where
  tb : H t = some (.lst (rs.map V.ref))
  rw : Paired (fun r row => H r = some (.lst (row.map V.int))) rs tab
theorem TabAt.same {H H' : Hp} {t : Addr} {rs : List Addr} {tab : List (List Int)} (x : TabAt H t rs tab) (s : Same H H') : TabAt H' t rs tab := ⟨s _ _ x.tb, Paired.mapP x.rw fun _ _ h => s _ _ h⟩
theorem TabAt.offs {S : List Addr} {H H' : Hp} {t : Addr} {rs : List Addr} {tab : List (List Int)} (x : TabAt H t rs tab) (f : OffS S H H') (ht : t ∉ S) (hr : ∀ r ∈ rs, r ∉ S) : TabAt H' t rs tab := by
  refine ⟨f _ _ ht x.tb, ?_⟩
  refine Paired.of_get (Paired.len x.rw) fun i r row h1 h2 => ?_
  obtain ⟨row', e, h⟩ := Paired.get1 x.rw h1
  rw [h2] at e; cases e
  exact f _ _ (hr r (List.mem_of_getElem? h1)) h
theorem TabAt.len {H : Hp} {t : Addr} {rs : List Addr} {tab : List (List Int)} (x : TabAt H t rs tab) : rs.length = tab.length := Paired.len x.rw
theorem TabAt.get {H : Hp} {t : Addr} {rs : List Addr} {tab : List (List Int)} {i : Nat} {row : List Int} (x : TabAt H t rs tab) (h : tab[i]? = some row) : ∃ r, rs[i]? = some r ∧ H r = some (.lst (row.map V.int)) ∧ atI (rs.map V.ref) (i : Int) = some (.ref r) := by
  obtain ⟨r, e, h2⟩ := Paired.get2 x.rw h
  exact ⟨r, e, h2, atI_nat (by rw [List.getElem?_map, e]; rfl)⟩
/-- one row is another one now -/
theorem TabAt.put {H : Hp} {t : Addr} {rs : List Addr} {tab : List (List Int)} {i : Nat} {r : Addr} (x : TabAt H t rs tab) (nd : rs.Nodup) (nt : t ∉ rs) (h : rs[i]? = some r) (row : List Int) : TabAt (upd H r (.lst (row.map V.int))) t rs (tab.set i row) := by
  have hr := List.mem_of_getElem? h
  refine ⟨hp_set (fun e => nt (e ▸ hr)) x.tb, ?_⟩
  refine Paired.of_get (by rw [List.length_set]; exact x.len) fun j r' row' h1 h2 => ?_
  rw [List.getElem?_set] at h2
  by_cases hij : i = j
  · subst hij
    rw [h] at h1; cases h1
    rw [if_pos rfl] at h2
    split at h2
    · cases h2; exact upd_same
    · cases h2
  · rw [if_neg hij] at h2
    have ne : r' ≠ r := fun e => hij (by
      subst e
      have hi := (List.getElem?_eq_some_iff.mp h)
      have hj := (List.getElem?_eq_some_iff.mp h1)
      obtain ⟨hi1, hi2⟩ := hi
      obtain ⟨hj1, hj2⟩ := hj
      exact (List.getElem_inj nd).mp (hi2.trans hj2.symm))
    obtain ⟨row2, e2, h3⟩ := Paired.get1 x.rw h1
    rw [h2] at e2; cases e2
    exact hp_set ne h3
def cF (n : Int) (t : Addr) : List (Str × V) := putF "_table" (.ref t) (putF "size" (.int n) [])
theorem kST : ¬ (("size" : Str) = "_table") := by decide +kernel
theorem cF_eq (n : Int) (t : Addr) : cF n t = ([("size", V.int n), ("_table", V.ref t)] : List (Str × V)) := by
  show (if ("size" : Str) = "_table" then [(("size" : Str), V.ref t)] else (("size" : Str), V.int n) :: putF "_table" (V.ref t) []) = ([("size", V.int n), ("_table", V.ref t)] : List (Str × V))
  rw [if_neg kST]
  all_goals rfl
theorem cF_size (n : Int) (t : Addr) : (cF n t).lookup ("size" : Str) = some (.int n) := by
  unfold cF
  rw [lookup_putF, if_neg kST, lookup_putF, if_pos rfl]
theorem cF_table (n : Int) (t : Addr) : (cF n t).lookup ("_table" : Str) = some (.ref t) := by
  unfold cF
  rw [lookup_putF, if_pos rfl]
theorem cF_no (n : Int) (t : Addr) {m : Str} (h1 : ¬ m = "_table") (h2 : ¬ m = "size") : (cF n t).lookup m = none := by
  unfold cF
  rw [lookup_putF, if_neg h1, lookup_putF, if_neg h2]
  all_goals rfl
theorem cF_put (n : Int) (t t' : Addr) : putF "_table" (.ref t') (cF n t) = cF n t' := by
  rw [cF_eq, cF_eq]
  show (if ("size" : Str) = "_table" then _ else (("size" : Str), V.int n) :: (if ("_table" : Str) = "_table" then [(("_table" : Str), V.ref t')] else _)) = ([("size", V.int n), ("_table", V.ref t')] : List (Str × V))
  rw [if_neg kST, if_pos rfl]
theorem cF_len (n : Int) (t : Addr) : (cF n t).length < 1000 := by rw [cF_eq]; show 2 < 1000; decide
structure CostsAt (C : Addr) (H : Hp) (a : Addr) (n : Nat) (t : Addr) (rs : List Addr) (tab : List (List Int)) : Prop where
  ob : ∃ dx, H a = some (.ins C dx (cF n t))
  tb : TabAt H t rs tab
  sz : tab.length = n
  sq : ∀ row ∈ tab, row.length = n
  nd : rs.Nodup
  nt : t ∉ rs
theorem CostsAt.same {C : Addr} {H H' : Hp} {a : Addr} {n : Nat} {t : Addr} {rs : List Addr} {tab : List (List Int)} (x : CostsAt C H a n t rs tab) (s : Same H H') : CostsAt C H' a n t rs tab := by
  obtain ⟨dx, e⟩ := x.ob
  exact ⟨⟨dx, s _ _ e⟩, x.tb.same s, x.sz, x.sq, x.nd, x.nt⟩
theorem CostsAt.offs {C : Addr} {S : List Addr} {H H' : Hp} {a : Addr} {n : Nat} {t : Addr} {rs : List Addr} {tab : List (List Int)} (x : CostsAt C H a n t rs tab) (f : OffS S H H') (ha : a ∉ S) (ht : t ∉ S) (hr : ∀ r ∈ rs, r ∉ S) : CostsAt C H' a n t rs tab := by
  obtain ⟨dx, e⟩ := x.ob
  exact ⟨⟨dx, f _ _ ha e⟩, x.tb.offs f ht hr, x.sz, x.sq, x.nd, x.nt⟩
/-- the cost of (a, b) -/
def gT (tab : List (List Int)) (a b : Nat) : Int := (tab.getD a []).getD b 0
theorem gT_row {tab : List (List Int)} {a : Nat} {row : List Int} (h : tab[a]? = some row) (b : Nat) : gT tab a b = row.getD b 0 := by
  unfold gT
  rw [List.getD_eq_getElem?_getD (l := tab), h]; rfl
/-- a table by its costs -/
def mkT (n : Nat) (f : Nat → Nat → Int) : List (List Int) := (List.range n).map fun a => (List.range n).map fun b => f a b
theorem mkT_len (n : Nat) (f : Nat → Nat → Int) : (mkT n f).length = n := by unfold mkT; rw [List.length_map, List.length_range]
theorem mkT_sq (n : Nat) (f : Nat → Nat → Int) : ∀ row ∈ mkT n f, row.length = n := by
  intro row h
  obtain ⟨a, _, rfl⟩ := List.mem_map.mp h
  rw [List.length_map, List.length_range]
theorem mkT_get {n a : Nat} (f : Nat → Nat → Int) (h : a < n) : (mkT n f)[a]? = some ((List.range n).map fun b => f a b) := by
  unfold mkT; rw [List.getElem?_map, List.getElem?_range h]; rfl
theorem gT_mk {n a b : Nat} (f : Nat → Nat → Int) (ha : a < n) (hb : b < n) : gT (mkT n f) a b = f a b := by
  rw [gT_row (mkT_get f ha), List.getD_eq_getElem?_getD, List.getElem?_map, List.getElem?_range hb]; rfl
theorem tab_eta {n : Nat} {tab : List (List Int)} (h1 : tab.length = n) (h2 : ∀ row ∈ tab, row.length = n) : tab = mkT n (gT tab) := by
  refine List.ext_getElem (by rw [mkT_len]; exact h1) fun a ha hb => ?_
  have hr := h2 _ (List.getElem_mem ha)
  have hg : tab[a]? = some tab[a] := List.getElem?_eq_getElem ha
  have e : (mkT n (gT tab))[a] = (List.range n).map fun b => gT tab a b := by
    have := mkT_get (gT tab) (show a < n by omega)
    rw [List.getElem?_eq_getElem hb] at this
    exact Option.some.inj this
  rw [e]
  refine List.ext_getElem (by rw [List.length_map, List.length_range]; exact hr) fun b h3 h4 => ?_
  rw [List.getElem_map, List.getElem_range, gT_row hg, List.getD_eq_getElem?_getD, List.getElem?_eq_getElem h3]; rfl
section
variable {K : PySem.W.Frag} {σ : L2.St} {H : Hp} {Q : VK} {te tl : TE} {ta : TA} {vs : List Nat} {j : Nat} {g : TG} {tt : TT}
def iEnumA (K : PySem.W.Frag) (ta : TA) : TI := fun σ H R => iEnum K ta σ H R ∨ iEnumT K ta σ H R
theorem dpi_enumA {X : Cx} (K : PySem.W.Frag) {e : Expr} {ta : TA} {p pos tpos : Pos} {elts : List Expr} {kk : Nat} (hg : Gl X "enumerate") (hm : X.mg "enumerate" = none) (ha : PA X [e] ta) (hK : X.K = K := by rfl) (hs : starEach [e] X.env = [(false, eval e X.env)] := by rfl) :
    PI X (.Tuple elts kk tpos) (.Call (.Name "enumerate" p) [e] [] pos) (iEnumA K ta) := by
  have h1 := dpi_enumT (X := X) K (tpos := tpos) (elts := elts) (kk := kk) (p := p) (pos := pos) hg hm ha hK hs
  subst hK
  have h2 := pi_enum (X := X) (tpos := tpos) (elts := elts) (kk := kk) (p := p) (pos := pos) hg hm ha hs
  exact ⟨fun pins s σ H R I h => h.elim (h2.run pins s σ H R I) (h1.run pins s σ H R I)⟩
/-- a comprehension of new lists of whole numbers: the i-th one is f i -/
theorem lc_fresh {J : It} {n : Nat} {G : Hp → Prop} {Y : Nat → Hp → V → Hp → Prop} (w : Walk J n G Y) (f : Nat → List Int) (hn : n ≤ 100000)
    (hG : ∀ H', Same H H' → G H') (hY : ∀ i H' x H2, Y i H' x H2 → Same H' H2)
    (he : ∀ (i : Nat) (x : V) (H' H2 : Hp) (Nx : VK) (E : Hp → Prop), i < n → Same H H' → Same H' H2 → Y i H' x H2 → (∀ r H'', Same H2 H'' → H2 r = none → H'' r = some (.lst ((f i).map V.int)) → Nx (.ref r) H'') →
      g x (wipe σ vs) H2 fun σ2 H3 => wipe σ2 vs = wipe σ vs ∧ tt σ2 H3 fun b H4 => if b = true then te σ2 H4 Nx else E H4)
    (q : ∀ D rs H', H D = none → Same H H' → H' D = some (.lst (rs.map V.ref)) → Paired (fun r i => H' r = some (.lst ((f i).map V.int))) rs (List.range n) → rs.Nodup → (∀ r ∈ rs, H r = none ∧ r ≠ D) → Q (.ref D) H') : LC J g tt te vs σ H Q := by
  intro D hD
  refine lc_it w (fun i H' => Same H H' ∧ ∃ rs, H' D = some (.lst (rs.map V.ref)) ∧ Paired (fun r i => H' r = some (.lst ((f i).map V.int))) rs (List.range i) ∧ rs.Nodup ∧ ∀ r ∈ rs, H r = none ∧ r ≠ D) ⟨same_upd hD, [], upd_same, .nil, List.nodup_nil, fun _ h => nomatch h⟩ (fun i H' _ h => hG _ h.1) ?_ ?_
  · rintro i x H' H2 hi ⟨s, rs, e, p, nd, fr⟩ hy
    have s2 : Same H' H2 := hY _ _ _ _ hy
    have hlen : rs.length = i := by rw [Paired.len p, List.length_range]
    refine he i x H' H2 _ _ hi s s2 hy fun r H'' s3 r0 er => ?_
    have s23 := s2.trans s3
    have rD : r ≠ D := (ne_of_none (s2 _ _ e) r0).symm
    refine ⟨rs.map V.ref, s23 _ _ e, sz4' (by rw [List.length_map]; omega), ?_, rs ++ [r], ?_, ?_, ?_, ?_⟩
    · intro b o eb
      rw [upd_ne (ne_of_none eb hD)]
      exact s23 _ _ (s _ _ eb)
    · rw [upd_same, List.map_append]; rfl
    · rw [List.range_succ]
      refine Paired.app ?_ (.cons (hp_set rD er) .nil)
      refine Paired.of_get (Paired.len p) fun k r' i' h1 h2 => ?_
      obtain ⟨i2, e2, h3⟩ := Paired.get1 p h1
      rw [h2] at e2; cases e2
      exact hp_set (fr r' (List.mem_of_getElem? h1)).2 (s23 _ _ h3)
    · refine List.nodup_append.mpr ⟨nd, List.nodup_cons.mpr ⟨by simp, List.nodup_nil⟩, fun a ha b hb e => ?_⟩
      rw [List.mem_singleton.mp hb] at e
      subst e
      obtain ⟨k, hk, e3⟩ := List.mem_iff_getElem.mp ha
      obtain ⟨i2, _, h3⟩ := Paired.get1 p (List.getElem?_eq_getElem hk)
      rw [e3] at h3
      rw [s2 _ _ h3] at r0; cases r0
    · intro r' hr'
      rcases List.mem_append.mp hr' with hr' | hr'
      · exact fr r' hr'
      · rw [List.mem_singleton.mp hr']
        exact ⟨(s.trans s2).free r0, rD⟩
  · rintro H' ⟨s, rs, e, p, nd, fr⟩
    exact q D rs H' hD s e p nd fr
end
end D0
namespace D0
open PySem PySem.Spec PyProof.Rows L2
section
variable {K : PySem.W.Frag} {σ : L2.St} {H : Hp} {Q : VK} {te tv : TE} {ta : TE} {t : TA} {f m : Str} {a C dx : Addr} {fs : List (Str × V)} {v : V} {D : Ends} {sp : Sp} {dvs : List V} {E : XK} {i : Nat} {ti : TIp}
theorem rd_fld (q : te σ H fun x H1 => ∃ a C dx fs v, x = .ref a ∧ H1 a = some (.ins C dx fs) ∧ Cls K C ∧ NoAttr K C f ∧ fs.lookup f = some v ∧ Q v H1) : tFld K te f σ H Q := q
theorem rv_fld {R : V → Prop} (e : H a = some (.ins C dx fs)) (c : Cls K C) (n : NoAttr K C f) (l : fs.lookup f = some v) (q : R v) : ∃ a' C' dx' fs' v', V.ref a = .ref a' ∧ H a' = some (.ins C' dx' fs') ∧ Cls K C' ∧ NoAttr K C' f ∧ fs'.lookup f = some v' ∧ R v' := ⟨a, C, dx, fs, v, rfl, e, c, n, l, q⟩
theorem rd_sfld (q : tv σ H fun y H1 => te σ H1 fun x H2 => ∃ a C dx fs, x = .ref a ∧ H2 a = some (.ins C dx fs) ∧ Cls K C ∧ NoAttr K C f ∧ fs.length < 1000 ∧ D.nx σ (upd H2 a (.ins C dx (putF f y fs)))) : sFld K te tv f D σ H := q
theorem rv_sfld {R : Hp → Prop} (e : H a = some (.ins C dx fs)) (c : Cls K C) (n : NoAttr K C f) (l : fs.length < 1000) (q : R (upd H a (.ins C dx (putF f v fs)))) : ∃ a' C' dx' fs', V.ref a = .ref a' ∧ H a' = some (.ins C' dx' fs') ∧ Cls K C' ∧ NoAttr K C' f ∧ fs'.length < 1000 ∧ R (upd H a' (.ins C' dx' (putF f v fs'))) := ⟨a, C, dx, fs, rfl, e, c, n, l, q⟩
theorem rd_meth (q : te σ H fun x H1 => ∃ a dx fs, x = .ref a ∧ H1 a = some (.ins C dx fs) ∧ fs.lookup m = none ∧ t σ H1 fun vs H2 => sp (x :: (vs ++ dvs)) H2 Q E) : tMeth C m sp dvs E te t σ H Q := q
theorem rv_meth {R : Prop} (e : H a = some (.ins C dx fs)) (l : fs.lookup m = none) (q : R) : ∃ a' dx' fs', V.ref a = .ref a' ∧ H a' = some (.ins C dx' fs') ∧ fs'.lookup m = none ∧ R := ⟨a, dx, fs, rfl, e, l, q⟩
theorem rd_make (q : t σ H fun vs H1 => ∀ x dx, H1 x = none → H1 dx = none → dx ≠ x → sp (.ref x :: (vs ++ dvs)) (upd (upd H1 dx (.own x)) x (.ins C dx [])) (fun v H2 => v = .non ∧ Q (.ref x) H2) E) : tMake C sp dvs E t σ H Q := q
theorem rd_stat (q : te σ H fun x H1 => x = .ref C ∧ t σ H1 fun vs H2 => sp vs H2 Q E) : tStat C sp E te t σ H Q := q
theorem rd_aug {x : V} (h : σ[i]? = some (some x)) (q : te σ H fun y H1 => ti x y H1 fun z H2 => D.nx (σ.set i (some z)) H2) : tAug i te ti D σ H := ⟨x, h, q⟩
theorem rv_own {y : V} (e : H a = some (.ins C dx fs)) (q : sp [.ref a, y] H Q E) : rOwn C sp E (.ref a) y H Q := ⟨⟨a, dx, fs, rfl, e⟩, q⟩
theorem rv_own2 {b dy : Addr} {gs : List (Str × V)} (e : H a = some (.ins C dx fs)) (e2 : H b = some (.ins C dy gs)) (q : sp [.ref a, .ref b] H Q E) : rOwn2 C sp E (.ref a) (.ref b) H Q := ⟨⟨a, dx, fs, b, dy, gs, rfl, e, rfl, e2⟩, q⟩
theorem rv_ownSet {y z : V} {R : Hp → Prop} (e : H a = some (.ins C dx fs)) (q : sp [.ref a, y, z] H (fun _ H' => R H') E) : rOwnSet C sp E (.ref a) y z H R := ⟨⟨a, dx, fs, rfl, e⟩, q⟩
end
end D0
namespace D0
open PySem PySem.Spec PyProof.Rows L2
def putT (tab : List (List Int)) (x y : Nat) (c : Int) : List (List Int) := tab.set x ((tab.getD x []).set y c)
def RowsLike (H : Hp) (v : V) (tab : List (List Int)) : Prop := ∃ a xs, v = .ref a ∧ (H a = some (.lst xs) ∨ H a = some (.tup xs)) ∧ Paired (fun x row => ∃ r, x = V.ref r ∧ (H r = some (.lst (row.map V.int)) ∨ H r = some (.tup (row.map V.int)))) xs tab
theorem RowsLike.same {H H' : Hp} {v : V} {tab : List (List Int)} (x : RowsLike H v tab) (s : Same H H') : RowsLike H' v tab := by
  obtain ⟨a, xs, rfl, e, p⟩ := x
  exact ⟨a, xs, rfl, e.imp (s _ _) (s _ _), Paired.mapP p fun u row ⟨r, e1, e2⟩ => ⟨r, e1, e2.imp (s _ _) (s _ _)⟩⟩
theorem RowsLike.of_tab {H : Hp} {t : Addr} {rs : List Addr} {tab : List (List Int)} (x : TabAt H t rs tab) : RowsLike H (.ref t) tab :=
  ⟨t, rs.map V.ref, rfl, .inl x.tb, Paired.map1 V.ref (Paired.mapP x.rw fun _ _ h => ⟨_, rfl, .inl h⟩)⟩
def zeroD (tab : List (List Int)) (n : Nat) : List (List Int) := mkT n fun a b => if a ≠ b then gT tab a b else 0
def addT (n : Nat) (s t : List (List Int)) : List (List Int) := mkT n fun a b => gT s a b + gT t a b
theorem pairs_mkT {H : Hp} {rs : List Addr} {n : Nat} {f : Nat → Nat → Int} (pr : Paired (fun r i => H r = some (.lst (((List.range n).map fun b => f i b).map V.int))) rs (List.range n)) : Paired (fun r row => H r = some (.lst (row.map V.int))) rs (mkT n f) := Paired.map2 _ pr
theorem getD_of {α : Type} {l : List α} {i : Nat} {x d : α} (h : l[i]? = some x) : l.getD i d = x := by rw [List.getD_eq_getElem?_getD, h]; rfl
end D0
namespace D0
open PySem PySem.Spec PyProof.Rows L2
theorem refs_of {α : Type} {P : Addr → α → Prop} : ∀ {ys : List V} {l : List α}, Paired (fun y row => ∃ x, y = V.ref x ∧ P x row) ys l → ∃ ps : List Addr, ys = ps.map V.ref ∧ Paired P ps l
  | _, _, .nil => ⟨[], rfl, .nil⟩
  | _, _, .cons ⟨x, e1, e2⟩ t => by
    obtain ⟨ps, e, p⟩ := refs_of t
    exact ⟨x :: ps, by rw [e1, e]; rfl, .cons e2 p⟩
end D0
namespace D0
open PySem PySem.Spec PyProof.Rows L2
section
variable {K : PySem.W.Frag} {σ : L2.St} {H : Hp} {ta : TA} {g : TG} {tt : TT} {te : TE} {vs : List Nat} {Q : VK}
theorem rd_enumL {R : It → Hp → Prop} (q : ta σ H fun vs H1 => ∃ a xs, vs = [.ref a] ∧ SqL K H1 a xs ∧ R (Ite K a) H1) : iEnum K ta σ H R := q
end
theorem row_list {n : Nat} {row : List Int} (hl : row.length = n) (f : Nat → Int → Int) : ((List.range row.length).filter fun _ => true).map (fun b => V.int (f b (row.getD b 0))) = (((List.range n).map fun b => f b (row.getD b 0))).map V.int := by
  rw [ftrue, hl, List.map_map]; rfl
end D0
namespace D0
open PySem PySem.Spec PyProof.Rows L2
theorem rv_stat {C : Addr} {R : Prop} (q : R) : V.ref C = V.ref C ∧ R := ⟨rfl, q⟩
end D0
namespace D0
open PySem PySem.Spec PyProof.Rows L2
section
variable {K : PySem.W.Frag} {σ σ2 : L2.St} {H H5 : Hp} {Q : VK} {te : TE} {vs vs1 : List Nat} {g g1 : TG} {tt tt1 : TT} {wi wi1 : TI} {D : Addr} {Nx : Hp → Prop}
def LI (J1 : It) (g1 : TG) (tt1 : TT) (te : TE) (vs1 : List Nat) (σ2 : L2.St) (D : Addr) (Nx : Hp → Prop) (H4 : Hp) : Prop := ∃ W1 : Nat → Nat → Hp → Prop, (∃ m, W1 0 m H4) ∧ ∀ j k H, W1 j k H →
      (J1.stop j H ∧ Nx H) ∨ (J1.go j H ∧ ∃ Nx1 : Hp → Prop, (∀ H', Nx1 H' → ∃ k', k' < k ∧ W1 (j + 1) k' H') ∧ ∀ x H', J1.yld j H x H' → g1 x (wipe σ2 vs1) H' fun σ3 H5 => wipe σ3 vs1 = wipe σ2 vs1 ∧ tt1 σ3 H5 fun b H6 =>
        if b = true then te σ3 H6 fun y H7 => ∃ acc, H7 D = some (.lst acc) ∧ acc.length < sizeLine ∧ Nx1 (upd H7 D (.lst (acc ++ [y]))) else Nx1 H6)
def LC2 (J : It) (g : TG) (tt : TT) (wi1 : TI) (g1 : TG) (tt1 : TT) (te : TE) (vs vs1 : List Nat) (σ : L2.St) (H1 : Hp) (Q : VK) : Prop := ∀ D, H1 D = none → ∃ W : Nat → Nat → Hp → Prop, (∃ m, W 0 m (upd H1 D (.lst []))) ∧ ∀ i m H, W i m H →
  (J.stop i H ∧ Q (.ref D) H) ∨ (J.go i H ∧ ∃ Nx : Hp → Prop, (∀ H', Nx H' → ∃ m', m' < m ∧ W (i + 1) m' H') ∧ ∀ x H', J.yld i H x H' → g x (wipe σ vs) H' fun σ2 H2 => wipe σ2 vs = wipe σ vs ∧ tt σ2 H2 fun b H3 =>
    if b = true then wi1 σ2 H3 fun J1 H4 => LI J1 g1 tt1 te vs1 σ2 D Nx H4 else Nx H3)
theorem rd_lc2 (q : wi σ H fun J H1 => LC2 J g tt wi1 g1 tt1 te vs vs1 σ H1 Q) : tLc2 wi g tt wi1 g1 tt1 te vs vs1 σ H Q := q
theorem li_pureF {J1 : It} {m : Nat} {G1 : Hp → Prop} {Y1 : Nat → Hp → V → Hp → Prop} (w : Walk J1 m G1 Y1) (kp1 : Nat → Bool) (f : Nat → V) (acc0 : List V) (e0 : H5 D = some (.lst acc0)) (hz : acc0.length + m ≤ 100000)
    (hG : ∀ H', Off D H5 H' → G1 H') (hY : ∀ i H' x H2, Y1 i H' x H2 → Same H' H2)
    (he : ∀ (j : Nat) (x : V) (H' H2 : Hp) (Qx : VK) (E : Hp → Prop), j < m → Off D H5 H' → (∃ zs, H' D = some (.lst zs)) → Same H' H2 → Y1 j H' x H2 → (kp1 j = true → ∀ H'', Same H2 H'' → Qx (f j) H'') → (kp1 j = false → ∀ H'', Same H2 H'' → E H'') →
      g1 x (wipe σ2 vs1) H2 fun σ3 H3 => wipe σ3 vs1 = wipe σ2 vs1 ∧ tt1 σ3 H3 fun b H4 => if b = true then te σ3 H4 Qx else E H4)
    (q : ∀ H', Off D H5 H' → H' D = some (.lst (acc0 ++ ((List.range m).filter kp1).map f)) → Nx H') : LI J1 g1 tt1 te vs1 σ2 D Nx H5 := by
  refine ⟨fun j k H => k = m - j ∧ j ≤ m ∧ Off D H5 H ∧ H D = some (.lst (acc0 ++ ((List.range j).filter kp1).map f)), ⟨m, by simp, Nat.zero_le _, Off.refl _ _, by rw [e0]; simp⟩, ?_⟩
  rintro j k H ⟨rfl, hj, o, e⟩
  have hg := hG H o
  by_cases hlt : j < m
  · refine .inr ⟨w.goes j H hlt hg, fun H' => Off D H5 H' ∧ H' D = some (.lst (acc0 ++ ((List.range (j + 1)).filter kp1).map f)), fun H' p => ⟨m - (j + 1), by omega, rfl, hlt, p.1, p.2⟩, fun x H' y => ?_⟩
    have y' := w.yields j H x H' hlt hg y
    have s := hY _ _ _ _ y'
    have hlen : (acc0 ++ ((List.range j).filter kp1).map f).length < sizeLine := sz4' (by
      rw [List.length_append, List.length_map]
      have := List.length_filter_le kp1 (List.range j)
      rw [List.length_range] at this
      omega)
    refine he j x H H' _ _ hlt o ⟨_, e⟩ s y' (fun hk H'' s2 => ?_) (fun hk H'' s2 => ?_)
    · have e2 := s2 _ _ (s _ _ e)
      refine ⟨_, e2, hlen, ((o.trans (Off.of_same (s.trans s2)))).set, ?_⟩
      rw [upd_same, List.range_succ, List.filter_append]
      simp [hk]
    · refine ⟨o.trans (Off.of_same (s.trans s2)), ?_⟩
      rw [s2 _ _ (s _ _ e), List.range_succ, List.filter_append]
      simp [hk]
  · have ej : j = m := by omega
    subst ej
    exact .inl ⟨w.stops H hg, q H o e⟩
/-- two clauses that change nothing that stood: at turn i the values L i are put behind -/
theorem lc2_pure {J : It} {n : Nat} {G : Hp → Prop} {Y : Nat → Hp → V → Hp → Prop} (w : Walk J n G Y) (L : Nat → List V)
    (hG : ∀ H', Same H H' → G H') (hY : ∀ i H' x H2, Y i H' x H2 → Same H' H2)
    (he : ∀ (D : Addr) (i : Nat) (x : V) (H' H2 : Hp) (Nx : Hp → Prop), i < n → H D = none → H' D = some (.lst ((List.range i).flatMap L)) → Same H H' → Same H' H2 → Y i H' x H2 → (∀ H'', Off D H2 H'' → H'' D = some (.lst ((List.range i).flatMap L ++ L i)) → Nx H'') →
      g x (wipe σ vs) H2 fun σ2 H3 => wipe σ2 vs = wipe σ vs ∧ tt σ2 H3 fun b H4 => if b = true then wi1 σ2 H4 fun J1 H5 => LI J1 g1 tt1 te vs1 σ2 D Nx H5 else Nx H4)
    (q : ∀ D H', H D = none → Same H H' → H' D = some (.lst ((List.range n).flatMap L)) → Q (.ref D) H') : LC2 J g tt wi1 g1 tt1 te vs vs1 σ H Q := by
  intro D hD
  refine ⟨fun i k H' => k = n - i ∧ i ≤ n ∧ Same H H' ∧ H' D = some (.lst ((List.range i).flatMap L)), ⟨n, by simp, Nat.zero_le _, same_upd hD, upd_same⟩, ?_⟩
  rintro i k H' ⟨rfl, hi, s, e⟩
  have hg := hG H' s
  by_cases hlt : i < n
  · refine .inr ⟨w.goes i H' hlt hg, fun H'' => Same H H'' ∧ H'' D = some (.lst ((List.range (i + 1)).flatMap L)), fun H'' p => ⟨n - (i + 1), by omega, rfl, hlt, p.1, p.2⟩, fun x H2 y => ?_⟩
    have y' := w.yields i H' x H2 hlt hg y
    have s2 := hY _ _ _ _ y'
    refine he D i x H' H2 _ hlt hD e s s2 y' fun H'' o e2 => ⟨fun b u eb => ?_, ?_⟩
    · exact o b u (ne_of_none eb hD) (s2 _ _ (s _ _ eb))
    · rw [e2, List.range_succ, List.flatMap_append]
      simp
  · have ei : i = n := by omega
    subst ei
    exact .inl ⟨w.stops H' hg, q D H' hD s e⟩
end
end D0
namespace D0
open PySem PySem.Spec PyProof.Rows L2
theorem same_off {D : Addr} {H H1 H2 : Hp} (s : Same H H1) (o : Off D H1 H2) (h : H D = none) : Same H H2 := fun b u e => o b u (ne_of_none e h) (s b u e)
theorem flat_len {α : Type} {L : Nat → List α} {m : Nat} (h : ∀ i, (L i).length ≤ m) : ∀ i, ((List.range i).flatMap L).length ≤ i * m
  | 0 => by simp
  | i + 1 => by
    rw [List.range_succ, List.flatMap_append, List.length_append]
    have h1 := flat_len h i
    have h2 := h i
    simp only [List.flatMap_cons, List.flatMap_nil, List.append_nil]
    rw [Nat.succ_mul]
    omega
theorem flatMap_ints (L : Nat → List Int) : ∀ n, (List.range n).flatMap (fun i => (L i).map V.int) = ((List.range n).flatMap L).map V.int := fun n => by rw [List.map_flatMap]
end D0
namespace D0
open PySem PySem.Spec PyProof.Rows L2
theorem BagAt.offs {b c : Addr} {cs : List Int} {S : List Addr} {H H' : Hp} (x : BagAt b c cs H) (f : OffS S H H') (hb : b ∉ S) (hc : c ∉ S) : BagAt b c cs H' := by
  obtain ⟨i, z, s, n, k, e, nc, hc', h1, h2⟩ := x
  exact ⟨i, z, s, n, k, f _ _ hb e, nc, f _ _ hc hc', h1, h2⟩
theorem map_at {tab : List (List Int)} (f : Int → Int) (i : Nat) : (tab.map fun row => row.map f).getD i [] = (tab.getD i []).map f := by
  rw [List.getD_eq_getElem?_getD, List.getD_eq_getElem?_getD, List.getElem?_map]
  cases tab[i]? <;> rfl
theorem gT_map {tab : List (List Int)} (f : Int → Int) (h0 : f 0 = 0) (i j : Nat) : gT (tab.map fun row => row.map f) i j = f (gT tab i j) := by
  unfold gT
  rw [map_at]
  generalize tab.getD i [] = row
  rw [List.getD_eq_getElem?_getD, List.getD_eq_getElem?_getD, List.getElem?_map]
  cases row[j]? with
  | none => exact h0.symm
  | some x => rfl
theorem sq_map {n : Nat} {tab : List (List Int)} (f : Int → Int) (h : ∀ row ∈ tab, row.length = n) : ∀ row ∈ (tab.map fun row => row.map f), row.length = n := by
  intro row hr
  obtain ⟨r, h1, rfl⟩ := List.mem_map.mp hr
  rw [List.length_map]; exact h r h1
end D0
namespace D0
open PySem PySem.Spec PyProof.Rows L2
theorem sum_perm {l m : List Int} (p : l.Perm m) : l.sum = m.sum := by
  induction p with
  | nil => rfl
  | cons x _ ih => rw [List.sum_cons, List.sum_cons, ih]
  | swap x y l => rw [List.sum_cons, List.sum_cons, List.sum_cons, List.sum_cons]; omega
  | trans _ _ h1 h2 => exact h1.trans h2
theorem sum_app (l m : List Int) : (l ++ m).sum = l.sum + m.sum := by
  induction l with
  | nil => simp
  | cons x l ih => rw [List.cons_append, List.sum_cons, List.sum_cons, ih]; omega
theorem sum_flat {α : Type} (g : α → List Int) : ∀ l : List α, (l.flatMap g).sum = (l.map fun x => (g x).sum).sum
  | [] => rfl
  | x :: l => by rw [List.flatMap_cons, sum_app, sum_flat g l, List.map_cons, List.sum_cons]
def priceL (o : List Nat) (f : Nat → Nat → Int) : List Int := (List.range o.length).flatMap fun i => (o.drop (i + 1)).map fun b => f (o.getD i 0) b
theorem list_range {α : Type} (l : List α) (d : α) : l = (List.range l.length).map fun i => l.getD i d := by
  refine List.ext_getElem (by simp) fun i h1 h2 => ?_
  rw [List.getElem_map, List.getElem_range, List.getD_eq_getElem?_getD, List.getElem?_eq_getElem h1]; rfl
theorem filter_drop {o : List Nat} {pos : Nat → Nat} (h : ∀ k, k < o.length → pos (o.getD k 0) = k) (i : Nat) : (o.filter fun b => decide (i < pos b)) = o.drop (i + 1) := by
  have e : o = o.take (i + 1) ++ o.drop (i + 1) := (List.take_append_drop (i + 1) o).symm
  have h1 : ((o.take (i + 1)).filter fun b => decide (i < pos b)) = [] := by
    refine List.filter_eq_nil_iff.mpr fun b hb => ?_
    obtain ⟨k, hk, rfl⟩ := List.mem_iff_getElem.mp hb
    rw [List.length_take] at hk
    have := h k (by omega)
    rw [List.getD_eq_getElem?_getD, List.getElem?_eq_getElem (by omega)] at this
    rw [List.getElem_take, show pos (o[k]'(by omega)) = k from this]
    simp; omega
  have h2 : ((o.drop (i + 1)).filter fun b => decide (i < pos b)) = o.drop (i + 1) := by
    refine List.filter_eq_self.mpr fun b hb => ?_
    obtain ⟨k, hk, rfl⟩ := List.mem_iff_getElem.mp hb
    rw [List.length_drop] at hk
    have := h (i + 1 + k) (by omega)
    rw [List.getD_eq_getElem?_getD, List.getElem?_eq_getElem (by omega)] at this
    rw [List.getElem_drop, show pos (o[i + 1 + k]'(by omega)) = i + 1 + k from this]
    simp; omega
  conv => lhs; rw [e]
  rw [List.filter_append, h1, h2, List.nil_append]
theorem price_math {n : Nat} {o : List Nat} (p : o.Perm (List.range n)) (pos : Nat → Nat) (h : ∀ k, k < n → pos (o.getD k 0) = k) (f : Nat → Nat → Int) :
    ((List.range n).map fun a => (((List.range n).filter fun b => decide (pos a < pos b)).map fun b => f a b).sum).sum = (priceL o f).sum := by
  have hl : o.length = n := by rw [p.length_eq, List.length_range]
  unfold priceL
  rw [sum_flat, ← sum_perm (p.map fun a => (((List.range n).filter fun b => decide (pos a < pos b)).map fun b => f a b).sum)]
  conv => lhs; rw [list_range o 0]
  rw [List.map_map]
  congr 1
  refine List.map_congr_left fun i hi => ?_
  have hi' : i < n := by rw [← hl]; exact List.mem_range.mp hi
  show (((List.range n).filter fun b => decide (pos (o.getD i 0) < pos b)).map fun b => f (o.getD i 0) b).sum = _
  rw [h i hi', ← sum_perm ((p.filter fun b => decide (i < pos b)).map fun b => f (o.getD i 0) b), filter_drop (by rw [hl]; exact h)]
theorem perm_swap {o : List Nat} {k : Nat} (h : k + 1 < o.length) : (o.take k ++ [o[k + 1], o[k]] ++ o.drop (k + 2)).Perm o := by
  have e : o = o.take k ++ (o[k] :: o[k + 1] :: o.drop (k + 2)) := by
    rw [← List.drop_eq_getElem_cons (show k + 1 < o.length from h), ← List.drop_eq_getElem_cons (show k < o.length by omega), List.take_append_drop]
  conv => rhs; rw [e]
  rw [List.append_assoc]
  refine List.Perm.append_left _ ?_
  exact List.Perm.swap ..
theorem perm_move {o : List Nat} {i j : Nat} (h : i < o.length) : (((o.take i ++ o.drop (i + 1)).take j ++ [o[i]]) ++ (o.take i ++ o.drop (i + 1)).drop j).Perm o := by
  have e : o = o.take i ++ (o[i] :: o.drop (i + 1)) := by rw [← List.drop_eq_getElem_cons h, List.take_append_drop]
  generalize hr : o.take i ++ o.drop (i + 1) = r
  have h1 : ((r.take j ++ [o[i]]) ++ r.drop j).Perm (o[i] :: r) := by
    rw [List.append_assoc]
    refine List.Perm.trans List.perm_middle ?_
    show (o[i] :: (r.take j ++ r.drop j)).Perm _
    rw [List.take_append_drop]
  refine h1.trans ?_
  rw [← hr]
  conv => rhs; rw [e]
  exact List.perm_middle.symm
end D0
namespace D0
open PySem PySem.Spec PyProof.Rows L2
theorem tab_range {H : Hp} {D : Addr} {gs : List Addr} {tab : List (List Int)} {n : Nat} (hn : tab.length = n) (e : H D = some (.lst (gs.map V.ref))) (p : Paired (fun r i => H r = some (.lst ((tab.getD i []).map V.int))) gs (List.range n)) : TabAt H D gs tab := by
  refine ⟨e, Paired.of_range hn.symm ?_⟩
  refine Paired.of_get (Paired.len p) fun k r i h1 h2 => ?_
  obtain ⟨i2, e2, h3⟩ := Paired.get1 p h1
  rw [h2] at e2; cases e2
  have hi : k < n := by rw [← List.length_range (n := n)]; exact (List.getElem?_eq_some_iff.mp h2).1
  rw [List.getElem?_range hi] at h2; cases h2
  exact ⟨tab[k]'(by omega), List.getElem?_eq_getElem (by omega), by rw [← getD_of (d := []) (List.getElem?_eq_getElem (show k < tab.length by omega))]; exact h3⟩
theorem gT_put {tab : List (List Int)} {x y : Nat} {c : Int} (hx : x < tab.length) (hy : y < (tab.getD x []).length) (i j : Nat) : gT (putT tab x y c) i j = if i = x ∧ j = y then c else gT tab i j := by
  unfold gT putT
  rw [List.getD_eq_getElem?_getD (l := tab.set x _), List.getElem?_set]
  by_cases h : x = i
  · subst h
    rw [if_pos rfl, if_pos hx]
    show (((tab.getD x []).set y c).getD j 0) = _
    rw [List.getD_eq_getElem?_getD, List.getElem?_set]
    by_cases h2 : y = j
    · subst h2
      rw [if_pos rfl, if_pos hy, if_pos ⟨rfl, rfl⟩]; rfl
    · rw [if_neg h2, if_neg (fun z => h2 z.2.symm), ← List.getD_eq_getElem?_getD]
  · rw [if_neg h, if_neg (fun z => h z.1.symm), ← List.getD_eq_getElem?_getD]
theorem tab_ext {n : Nat} {s t : List (List Int)} (h1 : s.length = n) (h2 : ∀ row ∈ s, row.length = n) (h3 : t.length = n) (h4 : ∀ row ∈ t, row.length = n) (h : ∀ i j, i < n → j < n → gT s i j = gT t i j) : s = t := by
  rw [tab_eta h1 h2, tab_eta h3 h4]
  unfold mkT
  refine List.map_congr_left fun a ha => List.map_congr_left fun b hb => h a b (List.mem_range.mp ha) (List.mem_range.mp hb)
theorem sq_getD {n : Nat} {tab : List (List Int)} (h1 : tab.length = n) (h2 : ∀ row ∈ tab, row.length = n) {x : Nat} (hx : x < n) : (tab.getD x []).length = n := by
  rw [getD_of (List.getElem?_eq_getElem (show x < tab.length by omega))]
  exact h2 _ (List.getElem_mem _)
theorem putT_sq {n : Nat} {tab : List (List Int)} {x y : Nat} {c : Int} (h1 : tab.length = n) (h2 : ∀ row ∈ tab, row.length = n) (hx : x < n) : (putT tab x y c).length = n ∧ ∀ row ∈ putT tab x y c, row.length = n := by
  unfold putT
  refine ⟨by rw [List.length_set]; exact h1, fun row h => ?_⟩
  rcases List.mem_or_eq_of_mem_set h with h | h
  · exact h2 row h
  · rw [h, List.length_set]; exact sq_getD h1 h2 hx
theorem bag_ne {b c : Addr} {cs : List Int} {H : Hp} {p : Addr} {C dx : Addr} {fs : List (Str × V)} (x : BagAt b c cs H) (e : H p = some (.ins C dx fs)) : p ≠ b ∧ p ≠ c := by
  obtain ⟨_, _, _, _, _, e1, _, e2, _⟩ := x
  exact ⟨fun h => (by rw [h, e1] at e; cases e), fun h => (by rw [h, e2] at e; cases e)⟩
theorem TabAt.lsts {H : Hp} {l : Addr} {ls : List Addr} {tab : List (List Int)} (x : TabAt H l ls tab) : ∀ y ∈ l :: ls, ∃ ys, H y = some (.lst ys) := by
  intro y hy
  rcases List.mem_cons.mp hy with rfl | hy
  · exact ⟨_, x.tb⟩
  · obtain ⟨k, hk, e⟩ := List.mem_iff_getElem.mp hy
    obtain ⟨row, _, h⟩ := Paired.get1 x.rw (List.getElem?_eq_getElem hk)
    rw [e] at h
    exact ⟨_, h⟩
theorem row_at {n : Nat} {tab : List (List Int)} {i j : Nat} (h1 : tab.length = n) (h2 : ∀ row ∈ tab, row.length = n) (hi : i < n) (hj : j < n) : atI ((tab[i]'(by omega)).map V.int) (j : Int) = some (.int (gT tab i j)) := by
  have gi := List.getElem?_eq_getElem (show i < tab.length by omega)
  have hrow := h2 _ (List.mem_of_getElem? gi)
  rw [gT_row gi]
  refine atI_nat ?_
  rw [List.getElem?_map, List.getElem?_eq_getElem (by omega), getD_of (List.getElem?_eq_getElem (by omega))]; rfl
theorem paired_mapP {α β : Type} {F G : α → β → Prop} : ∀ {l : List α} {m : List β}, Paired F l m → (∀ x y, y ∈ m → F x y → G x y) → Paired G l m
  | _, _, .nil, _ => .nil
  | _, _, .cons h t, f => .cons (f _ _ (by simp) h) (paired_mapP t fun x y hy => f x y (List.mem_cons_of_mem _ hy))
theorem CostsAt.off {C b : Addr} {H H' : Hp} {p : Addr} {n : Nat} {t : Addr} {rs : List Addr} {tab : List (List Int)} (x : CostsAt C H p n t rs tab) (f : Off b H H') (h : p ≠ b) (sb : ∀ x ∈ t :: rs, x ≠ b) : CostsAt C H' p n t rs tab :=
  x.offs (S := [b]) (OffS.of_off f (by simp)) (by simpa using h) (by simpa using sb t (by simp)) (fun r hr => by simpa using sb r (List.mem_cons_of_mem _ hr))
theorem TabAt.off {b : Addr} {H H' : Hp} {t : Addr} {rs : List Addr} {tab : List (List Int)} (x : TabAt H t rs tab) (f : Off b H H') (sb : ∀ x ∈ t :: rs, x ≠ b) : TabAt H' t rs tab :=
  x.offs (S := [b]) (OffS.of_off f (by simp)) (by simpa using sb t (by simp)) (fun r hr => by simpa using sb r (List.mem_cons_of_mem _ hr))
theorem cons_all {P : Addr → Prop} {t : Addr} {rs : List Addr} (h : P t) (h2 : ∀ r ∈ rs, P r) : ∀ x ∈ t :: rs, P x := fun x hx => by
  rcases List.mem_cons.mp hx with rfl | hx
  · exact h
  · exact h2 x hx
theorem apart {H : Hp} {l : Addr} {ls ts : List Addr} (h : ∀ y ∈ l :: ls, ∃ ys, H y = some (.lst ys)) (f : ∀ x ∈ ts, H x = none) : ∀ y ∈ l :: ls, y ∉ ts := fun y hy hm => by
  obtain ⟨ys, e⟩ := h y hy
  rw [f y hm] at e; cases e
theorem ring_next {n i d : Nat} (hi : i < n) (hd : d + 1 < n) : ∃ j : Nat, ((i : Int) + 1 + (d : Int)).fmod (n : Int) = (j : Int) ∧ j < n ∧ i ≠ j := by
  rw [Int.fmod_eq_emod_of_nonneg _ (by omega)]
  by_cases h : i + 1 + d < n
  · exact ⟨i + 1 + d, by rw [Int.emod_eq_of_lt (by omega) (by omega)]; omega, h, by omega⟩
  · refine ⟨i + 1 + d - n, ?_, by omega, by omega⟩
    rw [show (i : Int) + 1 + (d : Int) = ((i + 1 + d - n : Nat) : Int) + (n : Int) * 1 by omega, Int.add_mul_emod_self_left, Int.emod_eq_of_lt (by omega) (by omega)]
end D0
namespace D0
open PySem PySem.Spec PyProof.Rows L2 StX
section
variable {X : Cx} {K : PySem.W.Frag} {σ : L2.St} {H : Hp} {te : TE} {t : TA}
theorem pa_starK {e : Expr} {es : List Expr} {p : Pos} (K : PySem.W.Frag) (he : PE X e te) (hr : PA X es t) (hK : X.K = K := by rfl) (hs : starEach (.Starred e p :: es) X.env = (true, eval e X.env) :: starEach es X.env := by rfl) : PA X (.Starred e p :: es) (tStar K te t) := by
  subst hK
  exact pa_star he hr hs
theorem rd_star {Q : List V → Hp → Prop} (q : te σ H fun x H1 => ∃ p xs, x = V.ref p ∧ (SqT K H1 p xs ∨ SqL K H1 p xs) ∧ t σ H1 fun ys H2 => Q (xs ++ ys) H2) : tStar K te t σ H Q := q
theorem rv_starT {p : Addr} {xs : List V} {R : List V → Prop} (h : H p = some (.tup xs)) (q : R xs) : ∃ p' xs', V.ref p = V.ref p' ∧ (SqT K H p' xs' ∨ SqL K H p' xs') ∧ R xs' := ⟨p, xs, rfl, .inl (SqT.of h), q⟩
theorem rv_starL {p : Addr} {xs : List V} {R : List V → Prop} (h : H p = some (.lst xs)) (q : R xs) : ∃ p' xs', V.ref p = V.ref p' ∧ (SqT K H p' xs' ∨ SqL K H p' xs') ∧ R xs' := ⟨p, xs, rfl, .inr (SqL.of h), q⟩
end
def tDisp1 (tk tv : TE) : TE := fun σ H Q => ∀ p, H p = none → tk σ (upd H p (.dT [])) fun x H1 => tv σ H1 fun y H2 => H2 p = some (.dT []) ∧ ∃ b k, x = .ref b ∧ H2 b = some (.tup (k.map kV)) ∧ Q (.ref p) (upd H2 p (.dT [(k, y)]))
theorem pe_disp1 {X : Cx} {pos : Pos} {k v : Expr} {tk tv : TE} (hu : X.A.units + 1 < cLine) (hk : PE X k tk) (hv : PE X v tv) : PE X (.Dict [some k] [v] pos) (tDisp1 tk tv) := by
  refine ⟨fun pins s σ H Q I q => ?_⟩
  have hn := I.hok.fresh (Nat.le_refl s.heap.objs.size)
  have I1 := I.laid (a := s.heap.objs.size) (o := .dT []) (h' := s.heap.push { cls := .type "dict", data := .dict #[] }) (t' := s.toks) (fun _ _ q => Heap.get?_push_of_some _ q) (Nat.le_refl _) (dt_empty s.heap I.big)
  have P := (pps_cons hk hv pps_nil).run pins _ σ _ (fun ps H2 => match ps with | [(x, y)] => H2 s.heap.objs.size = some (.dT []) ∧ ∃ b kk, x = .ref b ∧ H2 b = some (.tup (kk.map kV)) ∧ Q (.ref s.heap.objs.size) (upd H2 s.heap.objs.size (.dT [(kk, y)])) | _ => False) I1 ?_ (pos := pos)
  · rw [arm_eval_Dict, zip_pairTrees [some k] [v] X.env pos rfl rfl, dictDisplay_pairs _ (by simp [pairTrees]) (by simp [pairTrees])]
    refine wpAny_bind (wpAny_standAt (wpAny_bind ?_))
    unfold subDict
    refine wpAny_bind (wpAny_alloc ?_)
    refine wpAny_bind (wpAny_holding ?_)
    rw [if_pos (by simp [pairTrees])]
    refine wpAny_bind (wpAny_mono P (fun vs s1 h1 => ?_) fun _ _ e => e)
    obtain ⟨ps, H2, I2, rel, h1⟩ := h1
    obtain ⟨x, y, rfl, e, b, kk, rfl, eb, q2⟩ : ∃ x y, ps = [(x, y)] ∧ H2 s.heap.objs.size = some (.dT []) ∧ ∃ b kk, x = V.ref b ∧ H2 b = some (.tup (kk.map kV)) ∧ Q (.ref s.heap.objs.size) (upd H2 s.heap.objs.size (.dT [(kk, y)])) := by
      match ps, h1 with
      | [(x, y)], h => exact ⟨x, y, rfl, h⟩
    cases rel with
    | @cons p0 q0 _ qs h0 t0 =>
      cases t0
      obtain ⟨r1, r2⟩ := h0
      obtain ⟨u, r⟩ := q0
      cases (show u = Value.ref b from r1)
      obtain ⟨z, hd, xs, relK, dd⟩ := dt_of I2.hok e
      refine wpAny_holding ?_
      rw [List.forIn_cons]
      have hz : xs.length ≤ sizeLine := by rw [← Paired.length relK]; exact z
      refine wpAny_bind (wpAny_bind (wpAny_bind (wpAny_dictSet_heap (hsz := hz) (show (tupleKind (mixKind X.prog X.w)).room X.A from Nat.lt_of_succ_lt hu) (key_of I2.hok eb) dd fun h' dd' hs => wpAny_pure ?_)))
      show wpAny _ _ (forIn [] _ _) _ _ _
      rw [List.forIn_nil]
      refine wpAny_pure (wpAny_pure (wpAny_pure (wpAny_pure ?_)))
      refine ⟨.ref s.heap.objs.size, upd H2 s.heap.objs.size (.dT [(kk, y)]), ?_, rfl, q2⟩
      obtain ⟨q, es, ep, hq, h2, h3, h4, _, h5⟩ := dd'
      have rk := relK.put kk eb r2
      refine d_write I2 (by rw [e]; exact True.intro) hs ⟨q, hq⟩ ⟨by rw [sizeLine_eq]; simp, hd, _, rk.keeps fun c ys ec => ?_, q, es, ep, hq, h2, h3, h4, h5⟩
      rw [upd_ne (ne_of ec e (fun z => nomatch z))]
      exact ec
  · exact q _ hn
theorem rd_disp1 {σ : L2.St} {H : Hp} {Q : VK} {tk tv : TE} (q : ∀ p, H p = none → tk σ (upd H p (.dT [])) fun x H1 => tv σ H1 fun y H2 => H2 p = some (.dT []) ∧ ∃ b k, x = .ref b ∧ H2 b = some (.tup (k.map kV)) ∧ Q (.ref p) (upd H2 p (.dT [(k, y)]))) : tDisp1 tk tv σ H Q := q
end D0
namespace D0
open PySem PySem.Spec PyProof.Rows L2
section
variable {X : Cx}
theorem call_str_bl : CallR X (.type "str") (fun xs H Q => ∃ b, xs = [.bl b] ∧ Q (.str (if b then "True" else "False")) H) := by
  intro pins s σ H xs us Q I r h
  obtain ⟨b, rfl, q⟩ := h
  obtain ⟨u, rfl, r1⟩ := vals1 r
  cases r1
  exact PySem.P.str_of_bool ⟨.str _, H, I.tok _, ⟨_, rfl⟩, q⟩
def rStrV : List V → Hp → VK → Prop := fun xs H Q => (∃ i, xs = [.int i] ∧ i.natAbs.log2 < 1920 ∧ Q (.str (toString i)) H) ∨ (∃ a, xs = [.str a] ∧ Q (.str a) H) ∨ ∃ b, xs = [.bl b] ∧ Q (.str (if b then "True" else "False")) H
theorem dStrV : CallR X (.type "str") rStrV := by
  intro pins s σ H xs us Q I r h
  rcases h with h | h | h
  · exact call_str_int pins s σ H xs us Q I r h
  · exact SkE.call_str_str pins s σ H xs us Q I r h
  · exact call_str_bl pins s σ H xs us Q I r h
def repS (x : Str) (k : Int) : Str := ⟨(List.replicate k.toNat x.cps).foldl (· ++ ·) #[]⟩
def rRepS : R2 := fun x y H Q => ∃ (a : Str) (k : Int), x = .str a ∧ y = .int k ∧ -(2 ^ 62) ≤ k ∧ k ≤ 1000 ∧ a.length ≤ 1000 ∧ Q (.str (repS a k)) H
theorem op_repS : OpR X (binaryOp .Mult) rRepS := by
  intro pins s σ H x y v u Q I rx ry h
  obtain ⟨a, k, rfl, rfl, h1, h2, h3, q⟩ := h
  obtain ⟨t, rfl⟩ := rx
  obtain ⟨t2, rfl⟩ := ry
  have e0 : k < 1 → repS a k = Str.empty := fun h => by
    unfold repS
    rw [show k.toNat = 0 by omega]; rfl
  refine PySem.P.mul_str (by rw [decide_eq_false (by omega), decide_eq_false (by omega)]; rfl) (fun h _ => ?_) (fun h _ => ?_) ?_
  · have : 1000 ≤ (2 ^ 63 - 1) / k := by
      refine Int.le_ediv_of_mul_le (by omega) ?_
      have : (1000 : Int) * k ≤ 1000 * 1000 := Int.mul_le_mul_of_nonneg_left h2 (by omega)
      omega
    omega
  · have : a.length * k.toNat ≤ 1000 * 1000 := Nat.mul_le_mul h3 (by omega)
    exact decide_eq_false (by simp only [sizeLine_eq]; omega)
  · by_cases h : k < 1
    · rw [if_pos h]
      refine ⟨by decide, ?_⟩
      rw [e0 h] at q
      exact ⟨.str _, H, I.tok _, ⟨_, rfl⟩, q⟩
    · rw [if_neg h]
      by_cases h' : (k == 1 || a.length == 0) = true
      · rw [if_pos h']
        have e : repS a k = a := by
          rw [Bool.or_eq_true] at h'
          rcases h' with h' | h'
          · have : k = 1 := by simpa using h'
            subst this
            obtain ⟨c⟩ := a
            simp [repS]
          · obtain ⟨c⟩ := a
            have hc : c = #[] := by simpa [Str.length] using h'
            subst hc
            unfold repS
            congr 1
            generalize k.toNat = n
            induction n with
            | zero => rfl
            | succ n ih => rw [List.replicate_succ, List.foldl_cons]; simpa using ih
        rw [e] at q
        exact ⟨.str _, H, I, ⟨_, rfl⟩, q⟩
      · rw [if_neg h']
        refine ⟨?_, ⟨.str _, H, I.tok _, ⟨_, rfl⟩, q⟩⟩
        show (repS a k).length ≤ sizeLine
        have hl : (repS a k).length = k.toNat * a.length := by
          unfold repS
          generalize k.toNat = n
          have : ∀ (m : Nat) (z : Array Nat), ((List.replicate m a.cps).foldl (· ++ ·) z).size = z.size + m * a.cps.size := by
            intro m
            induction m with
            | zero => intro z; simp
            | succ m ih => intro z; rw [List.replicate_succ, List.foldl_cons, ih, Array.size_append, Nat.succ_mul]; omega
          show ((List.replicate n a.cps).foldl (· ++ ·) #[]).size = _
          rw [this]; simp [Str.length]
        have : k.toNat * a.length ≤ 1000 * 1000 := Nat.mul_le_mul (by omega) h3
        rw [hl, sizeLine_eq]; omega
theorem adjust_back (n : Nat) : Builtin.Slice.sliceAdjust none none (-1) (n : Int) = ((n : Int) - 1, -1) := by
  unfold Builtin.Slice.sliceAdjust
  simp
theorem places_back (n : Nat) : Builtin.Slice.slicePlaces ((n : Int) - 1) (-1) (-1) = n := by
  unfold Builtin.Slice.slicePlaces
  have h1 : ¬ (-1 : Int) > 0 := by omega
  simp only [h1, if_false]
  by_cases h : n = 0
  · subst h; simp
  · simp; omega
end
section
variable {prog : Program} {w : World} {A : Around} {E : Value → Shared → Prop} {s : Shared}
theorem sliceApplied_back {sl : Addr} {vl vu vs : Value} {n : Nat} {Q : Int × Int × Nat → Shared → Prop} (hs : s.heap.IsSliceOf sl vl vu vs) (pl : IsPart vl none) (pu : IsPart vu none) (ps : IsPart vs (some (-1)))
    (h : Q ((n : Int) - 1, -1, n) s) : wpAny (model prog w) A (Builtin.Slice.sliceApplied (.ref sl) (pure (n : Int))) Q E s := by
  obtain ⟨os, hos, hcs, hds⟩ := id hs
  unfold Builtin.Slice.sliceApplied Builtin.Slice.sliceFields
  refine wpAny_bind (wpAny_bind (wpAny_field hos hds (x := vl) rfl (wpAny_bind (wpAny_field hos hds (x := vu) rfl (wpAny_bind (wpAny_field hos hds (x := vs) rfl (wpAny_pure ?_)))))))
  refine wpAny_bind (HT.slicePart_ ps ?_)
  show wpAny _ _ (if ((-1 : Int) == 0) = true then _ else _) _ _ s
  rw [if_neg (by decide)]
  refine wpAny_bind (HT.slicePart_ pl (wpAny_bind (HT.slicePart_ pu (wpAny_bind (wpAny_pure ?_)))))
  show wpAny _ _ (match Builtin.Slice.sliceAdjust none none (-1) (n : Int) with | (lo, hi) => pure (lo, (-1 : Int), Builtin.Slice.slicePlaces lo hi (-1))) _ _ s
  rw [adjust_back n]
  show wpAny _ _ (pure ((n : Int) - 1, (-1 : Int), Builtin.Slice.slicePlaces ((n : Int) - 1) (-1) (-1))) _ _ s
  rw [places_back]
  exact wpAny_pure h
theorem pick_back (xs : Array Value) : ((List.range xs.size).filterMap fun (m : Nat) => xs[(((xs.size : Nat) : Int) - 1 + (m : Int) * -1).toNat]?).toArray = xs.toList.reverse.toArray := by
  have e : (List.range xs.size).filterMap (fun (m : Nat) => xs[(((xs.size : Nat) : Int) - 1 + (m : Int) * -1).toNat]?) = xs.toList.reverse := by
    obtain ⟨l⟩ := xs
    simp only [List.size_toArray, List.getElem?_toArray]
    have main : ∀ r : List Value, (List.range r.reverse.length).filterMap (fun (m : Nat) => r.reverse[(((r.reverse.length : Nat) : Int) - 1 + (m : Int) * -1).toNat]?) = r := by
      intro r
      induction r with
      | nil => rfl
      | cons x r ih =>
        rw [List.reverse_cons, List.length_append, List.length_singleton, List.range_succ_eq_map, List.filterMap_cons]
        have h0 : (r.reverse ++ [x])[((((r.reverse.length + 1 : Nat) : Int)) - 1 + ((0 : Nat) : Int) * -1).toNat]? = some x := by
          rw [show ((((r.reverse.length + 1 : Nat) : Int)) - 1 + ((0 : Nat) : Int) * -1).toNat = r.reverse.length by omega]
          simp
        rw [h0]
        simp only [List.filterMap_map]
        congr 1
        rw [← ih]
        have hf : ∀ (f g : Nat → Option Value) (l : List Nat), (∀ m ∈ l, f m = g m) → l.filterMap f = l.filterMap g := by
          intro f g l
          induction l with
          | nil => intro _; rfl
          | cons y l ih =>
            intro h
            rw [List.filterMap_cons, List.filterMap_cons, h y List.mem_cons_self, ih fun m hm => h m (List.mem_cons_of_mem _ hm)]
        rw [ih]
        refine Eq.trans (hf _ _ _ fun m hm => ?_) ih
        have hm := List.mem_range.mp hm
        simp only [Function.comp]
        rw [show ((((r.reverse.length + 1 : Nat) : Int)) - 1 + ((m.succ : Nat) : Int) * -1).toNat = r.reverse.length - 1 - m by omega, show (((r.reverse.length : Nat) : Int) - 1 + (m : Int) * -1).toNat = r.reverse.length - 1 - m by omega]
        rw [List.getElem?_append_left (by omega)]
    have := main l.reverse
    rw [List.reverse_reverse] at this
    exact this
  rw [e]
theorem getItem_tuple_back {t sl : Addr} {items : Array Value} {vl vu vs : Value} {Q : Value → Shared → Prop} (ht : IsTup s.heap t items) (hs : s.heap.IsSliceOf sl vl vu vs) (pl : IsPart vl none) (pu : IsPart vu none) (ps : IsPart vs (some (-1)))
    (h : Q (.ref s.heap.objs.size) { s with heap := s.heap.push { cls := .type "tuple", data := .seq items.toList.reverse.toArray } })
    (hsz : items.size ≤ sizeLine) : wpAny (model prog w) A (getItem (.ref t) (.ref sl)) Q E s := by
  have htake : sizeOk (.seq items.toList.reverse.toArray) := by
    show items.toList.reverse.toArray.size ≤ sizeLine
    rw [List.size_toArray, List.length_reverse, Array.length_toList]
    omega
  obtain ⟨os, hos, hcs, hds⟩ := id hs
  have hTs : s.TypeIs (.ref sl) "slice" := ⟨os, hos, hcs⟩
  unfold getItem
  try with_reducible refine wpAny_holding ?_
  first | refine wpAny_bind (wpAny_pure ?_) | skip
  refine wpAny_bind (wpAny_sequenceKey ht.typeIs (by decide) ?_)
  refine wpAny_bind (wpAny_callSpecial?_slot (name := Str.ofString "__getitem__") ht.typeIs PyProof.Rows.slot_tuple_getitem
    (wpAny_call_entry PyProof.Rows.slot_tuple_getitem ht.typeIs entry_tuple_getitem ?_ (args_tuple_getitem _ _)))
  show wpAny _ _ (Builtin.Tuple.tupleItemsOf (.ref t) >>= _) _ _ s
  refine wpAny_bind (PyProof.Rows.tupleItemsOf_ ht ?_)
  refine wpAny_bind (wpAny_typeOf hTs ?_)
  rw [if_pos (by decide)]
  refine wpAny_bind (sliceApplied_back hs pl pu ps ?_)
  show wpAny _ _ (if (((items.size : Nat) : Int) - 1 == 0 && (-1 : Int) == 1 && items.size == items.size) = true then _ else _) _ _ s
  rw [if_neg (by simp), pick_back]
  first
    | exact wpAny_bind (m := Builtin.Tuple.tupleExact _) (wpAny_newObj_type (wpAny_pure ⟨_, rfl, wpAny_pure h⟩) htake)
    | exact wpAny_bind (m := Builtin.Tuple.tupleExact _) (wpAny_newObj_type (wpAny_bind (wpAny_pure (wpAny_pure ⟨_, rfl, wpAny_pure h⟩))) htake)
    | exact wpAny_bind (wpAny_bind (m := Builtin.Tuple.tupleExact _) (wpAny_newObj_type (wpAny_pure (wpAny_pure ⟨_, rfl, wpAny_pure h⟩)) htake))
    | exact wpAny_bind (wpAny_bind (m := Builtin.Tuple.tupleExact _) (wpAny_newObj_type (wpAny_pure ⟨_, rfl, wpAny_pure h⟩) htake))
end
section
variable {X : Cx}
/-- xs[::-1], a list or a tuple -/
def tRevA (K : PySem.W.Frag) (te : TE) : TE := fun σ H Q => te σ H fun x H1 => ∃ a xs, x = .ref a ∧ ((SqL K H1 a xs ∧ ∀ p, H1 p = none → Q (.ref p) (upd H1 p (.lst xs.reverse))) ∨ (SqT K H1 a xs ∧ ∀ p, H1 p = none → Q (.ref p) (upd H1 p (.tup xs.reverse))))
theorem pe_revA {e : Expr} {te : TE} {k : Nat} {p1 p2 p3 pos : Pos} (K : PySem.W.Frag) (he : PE X e te) (hK : X.K = K := by rfl) : PE X (.Subscript e (.Slice none none (some (.UnaryOp .USub (.Constant (.int 1) k p1) p2)) p3) pos) (tRevA K te) := by
  subst hK
  refine ⟨fun pins s σ H Q I h => ?_⟩
  refine Subscript_ (thn (he.run pins s σ H _ I h) fun v s1 ⟨x, H1, I1, r1, q1⟩ => ?_)
  obtain ⟨a, xs, ex, q⟩ := q1
  subst ex
  cases r1
  have hst : PO X (some (.UnaryOp .USub (.Constant (.int 1) k p1) p2)) (tPart (tUn (rU fun i => .int (-i)) (tC (.int 1)))) := po_some (pe_un un_neg pe_int)
  refine wpAny_Slice (thn (po_none.run pins s1 σ H1 (fun o H2 => o = none ∧ H2 = H1) I1 ⟨rfl, rfl⟩) fun vl s2 ⟨l, H2, I2, pl, el, e2⟩ => ?_)
  subst el e2
  refine thn (po_none.run pins s2 σ H2 (fun o H3 => o = none ∧ H3 = H2) I2 ⟨rfl, rfl⟩) fun vu s3 ⟨u, H3, I3, pu, eu, e3⟩ => ?_
  subst eu e3
  refine thn (hst.run pins s3 σ H3 (fun o H4 => o = some (-1) ∧ H4 = H3) I3 ⟨1, rfl, -1, rfl, rfl, rfl⟩) fun vs s4 ⟨o, H4, I4, ps, eo, e4⟩ => ?_
  subst eo e4
  have I5 : Inv X pins σ H4 { s4 with heap := s4.heap.push { cls := .type "slice", data := .fields #[vl, vu, vs] } } := I4.kept (t' := s4.toks) fun b ob q => Heap.get?_push_of_some _ q
  rcases q with ⟨hx, q⟩ | ⟨hx, q⟩
  · obtain ⟨its, r, ht, hz⟩ := I5.list hx
    have hlen := r.length
    show wpAny (model X.prog X.w) X.A (subscriptTail e (.Slice none none (some (.UnaryOp .USub (.Constant (.int 1) k p1) p2)) p3) (.ref a) (.ref s4.heap.objs.size)) (EP X pins σ Q) X.xe { s4 with heap := s4.heap.push { cls := .type "slice", data := .fields #[vl, vu, vs] } }
    refine tail_any (ops := [.ref a, .ref s4.heap.objs.size]) ht.isList.typeIs (PySem.slot_list_getitem.lookup) ?_ (by with_unfolding_all rfl)
    refine wpAny_getItem_list_slice ht.isList (Heap.IsSliceOf.new _ vl vu vs) pl pu ps (by decide) ?_ (by rw [List.size_toArray]; omega)
    rw [PySem.W.krv_pick]
    refine ⟨.ref _, _, I5.laid (t' := s4.toks) (o := .lst xs.reverse) (fun b ob q => Heap.get?_push_of_some _ q) (Nat.le_refl _) ?_, rfl, q _ (I5.hok.fresh (Nat.le_refl _))⟩
    exact ⟨by rw [List.length_reverse]; exact hz, _, 0, r.reverse, Heap.get?_push_size _ rfl⟩
  · obtain ⟨its, r, ht, hz⟩ := I5.tuple hx
    have hlen := r.length
    show wpAny (model X.prog X.w) X.A (subscriptTail e (.Slice none none (some (.UnaryOp .USub (.Constant (.int 1) k p1) p2)) p3) (.ref a) (.ref s4.heap.objs.size)) (EP X pins σ Q) X.xe { s4 with heap := s4.heap.push { cls := .type "slice", data := .fields #[vl, vu, vs] } }
    refine tail_any (ops := [.ref a, .ref s4.heap.objs.size]) ht.typeIs (PyProof.Rows.slot_tuple_getitem.lookup) ?_ (by with_unfolding_all rfl)
    refine getItem_tuple_back ht (Heap.IsSliceOf.new _ vl vu vs) pl pu ps ?_ (by rw [List.size_toArray]; omega)
    refine ⟨.ref _, _, I5.laid (t' := s4.toks) (o := .tup xs.reverse) (fun b ob q => Heap.get?_push_of_some _ q) (Nat.le_refl _) ?_, rfl, q _ (I5.hok.fresh (Nat.le_refl _))⟩
    exact ⟨by rw [List.length_reverse]; exact hz, _, r.reverse, IsTup.new _ _⟩
theorem dAddV (K : PySem.W.Frag) (hK : X.K = K := by rfl) : OpR X (binaryOp .Add) (fun x y H Q => rI0 (fun i j => .int (i + j)) x y H Q ∨ (∃ i j, x = .str i ∧ y = .str j ∧ i.length + j.length ≤ sizeLine ∧ Q (.str (i ++ j)) H) ∨ rCat x y H Q ∨ rCatA K x y H Q) := by subst hK; exact op_add.or (op_add_str.or (op_cat.or op_catA))
def rAddV (K : PySem.W.Frag) : R2 := fun x y H Q => rI0 (fun i j => .int (i + j)) x y H Q ∨ (∃ i j, x = .str i ∧ y = .str j ∧ i.length + j.length ≤ sizeLine ∧ Q (.str (i ++ j)) H) ∨ rCat x y H Q ∨ rCatA K x y H Q
def rMulV : R2 := fun x y H Q => rMulD x y H Q ∨ rRepS x y H Q
theorem dMulV : OpR X (binaryOp .Mult) rMulV := dMul.or op_repS
def rEqV (K : PySem.W.Frag) : R2 := fun x y H Q => rEq x y H Q ∨ rEqD K x y H Q
def rNeV (K : PySem.W.Frag) : R2 := fun x y H Q => rNe x y H Q ∨ rNeD K x y H Q
theorem dEqV (K : PySem.W.Frag) (hu : X.A.units + 64 < cLine) (hK : X.K = K := by rfl) : OpR X (compareOp .Eq) (rEqV K) := dEq.or (dEqD K hu hK)
theorem dNeV (K : PySem.W.Frag) (hu : X.A.units + 64 < cLine) (hK : X.K = K := by rfl) : OpR X (compareOp .NotEq) (rNeV K) := dNe.or (dNeD K hu hK)
def rInV (K : PySem.W.Frag) : R2 := fun x y H Q => D0.rInD K false x y H Q ∨ L2.rInD K x y H Q
def rNinV (K : PySem.W.Frag) : R2 := fun x y H Q => D0.rInD K true x y H Q ∨ rNotInD K x y H Q
theorem dInV (K : PySem.W.Frag) (hu : X.A.units + 65 < cLine) (hK : X.K = K := by rfl) : OpR X (compareOp .In) (rInV K) := by subst hK; exact (dIn _).or (op_inD hu)
theorem dNinV (K : PySem.W.Frag) (hu : X.A.units + 65 < cLine) (hK : X.K = K := by rfl) : OpR X (compareOp .NotIn) (rNinV K) := by subst hK; exact (dNin _).or (op_notInD hu)
def rSlV (K : PySem.W.Frag) : V → Option Int → Option Int → Hp → VK → Prop := fun x lo hi H Q => rSlD K x lo hi H Q ∨ rSlA K x lo hi H Q
theorem dSlV (K : PySem.W.Frag) (hK : X.K = K := by rfl) : SlR X (rSlV K) := SlRor (dSl K hK) (dSlTA K hK)
end
end D0
namespace D0
open PySem PySem.Spec PyProof.Rows L2
theorem firstMet_dist (f : Nat → Int) : ∀ i, (PyProof.Rows.firstMet f i).Nodup ∧ (∀ k, k ∈ PyProof.Rows.firstMet f i ↔ ∃ j, j < i ∧ f j = k) ∧ (PyProof.Rows.firstMet f i).length ≤ i
  | 0 => ⟨List.nodup_nil, fun k => ⟨fun h => (nomatch h), fun ⟨j, h, _⟩ => absurd h (Nat.not_lt_zero j)⟩, Nat.le_refl _⟩
  | i + 1 => by
    obtain ⟨nd, mem, le⟩ := firstMet_dist f i
    rw [PyProof.Rows.firstMet_succ]
    cases hb : (PyProof.Rows.firstMet f i).any (· == f i) with
    | true =>
      obtain ⟨y, hy, ey⟩ := List.any_eq_true.mp hb
      have ey2 : y = f i := eq_of_beq ey
      rw [ey2] at hy
      rw [show PyProof.Rows.step_dedup (PyProof.Rows.firstMet f i) (f i) = PyProof.Rows.firstMet f i from by unfold PyProof.Rows.step_dedup; rw [hb]; rfl]
      refine ⟨nd, fun k => ⟨fun h => ?_, fun ⟨j, h, e⟩ => ?_⟩, by omega⟩
      · obtain ⟨j, h1, h2⟩ := (mem k).mp h
        exact ⟨j, by omega, h2⟩
      · by_cases hj : j < i
        · exact (mem k).mpr ⟨j, hj, e⟩
        · have : j = i := by omega
          subst this
          rw [← e]; exact hy
    | false =>
      have no : f i ∉ PyProof.Rows.firstMet f i := fun h => by
        have := List.any_eq_false.mp hb _ h
        simp at this
      rw [show PyProof.Rows.step_dedup (PyProof.Rows.firstMet f i) (f i) = PyProof.Rows.firstMet f i ++ [f i] from by unfold PyProof.Rows.step_dedup; rw [hb]; rfl]
      refine ⟨List.nodup_append.mpr ⟨nd, by simp, fun a ha b hb => ?_⟩, fun k => ⟨fun h => ?_, fun ⟨j, h, e⟩ => ?_⟩, ?_⟩
      · rw [List.mem_singleton.mp hb]
        exact fun e => no (e ▸ ha)
      · rcases List.mem_append.mp h with h | h
        · obtain ⟨j, h1, h2⟩ := (mem k).mp h
          exact ⟨j, by omega, h2⟩
        · exact ⟨i, Nat.lt_succ_self i, (List.mem_singleton.mp h).symm⟩
      · by_cases hj : j < i
        · exact List.mem_append_left _ ((mem k).mpr ⟨j, hj, e⟩)
        · have : j = i := by omega
          subst this
          exact List.mem_append_right _ (List.mem_singleton.mpr e.symm)
      · rw [List.length_append]; simp; omega
def tLenSetG (K : PySem.W.Frag) (ta : TE) : TE := fun σ H Q => ta σ H fun x H1 => ∃ (l : Addr) (ns : List Int), x = .ref l ∧ SqL K H1 l (ns.map V.int) ∧ ns.length ≤ 4000 ∧ ∀ d : List Int, d.Nodup → (∀ k, k ∈ d ↔ k ∈ ns) → Q (.int (d.length : Nat)) H1
theorem dLenSetG {X : Cx} (K : PySem.W.Frag) {a : Expr} {ta : TE} {p p2 q pos : Pos} (hg : Gl X "len") (hm : X.mg "len" = none) (hg2 : Gl X "set") (hm2 : X.mg "set" = none) (ha : PE X a ta) (hc : X.calm = true := by rfl) (hK : X.K = K := by rfl)
    (na : starEach [a] X.env = (false, eval a X.env) :: starEach [] X.env := by rfl) : PE X (.Call (.Name "len" p) [.Call (.Name "set" p2) [a] [] q] [] pos) (tLenSetG K ta) := by
  subst hK
  refine ⟨fun pins s σ H Q I h => ?_⟩
  refine Call_ (ld_blt I hg hm boot_len ?_)
  refine PyProof.Rows.callWith_builtin1 (PyProof.Rows.args_cons ?_ rfl) rfl rfl
  refine Call_ (ld_blt I hg2 hm2 boot_set ?_)
  refine PyProof.Rows.callWith_type1 (PyProof.Rows.args_cons (thn (ha.run pins s σ H _ I h) fun v s1 ⟨x, H1, I1, r1, q1⟩ => PyProof.Rows.args_nil ?_) na) na rfl
  obtain ⟨l, ns, rfl, hq, hl, q1⟩ := q1
  cases r1
  obtain ⟨its, r, pl, hz⟩ := I1.list hq
  have hlen : its.toArray.size = ns.length := by rw [List.size_toArray, ← r.length, List.length_map]
  refine call_set_list (I1.ok.hd hc) pl.isList (by simpa using RZ.intsAre_vals r) (by rw [hlen]; unfold scanBound; omega) fun h' tk hS hk => ?_
  refine PyProof.Rows.args_nil ?_
  obtain ⟨nd, mem, le⟩ := firstMet_dist (fun i => ns.getD i 0) ns.length
  rw [hlen] at hS
  obtain ⟨o, es, ep, t, ho, hex, hd, _, _, _, hf, hn⟩ := hS
  have I2 : Inv X pins σ H1 { s1 with heap := h', toks := tk } := I1.kept fun b o e => hk b o (Heap.lt_size e) e
  refine call_len_set ho hex hd hf (by rw [hn]; omega) ⟨.int (PyProof.Rows.firstMet (fun i => ns.getD i 0) ns.length).length, H1, I2.tok _, ⟨_, by rw [hn]⟩, q1 _ nd fun k => ?_⟩
  rw [mem k]
  constructor
  · rintro ⟨j, hj, e⟩
    rw [List.getD_eq_getElem?_getD, List.getElem?_eq_getElem hj] at e
    rw [← e]
    exact List.getElem_mem hj
  · intro h
    obtain ⟨j, hj, e⟩ := List.getElem_of_mem h
    refine ⟨j, hj, ?_⟩
    rw [List.getD_eq_getElem?_getD, List.getElem?_eq_getElem hj]
    exact e
end D0
namespace D0
open PySem PySem.Spec PyProof.Rows L2 Srt SrtO
abbrev Tri := Int × Int × Int
def lexT (p q : Tri) : Bool := if p.1 = q.1 then (if p.2.1 = q.2.1 then decide (p.2.2 < q.2.2) else decide (p.2.1 < q.2.1)) else decide (p.1 < q.1)
theorem lexT_iff {p q : Tri} : lexT p q = true ↔ p.1 < q.1 ∨ (p.1 = q.1 ∧ (p.2.1 < q.2.1 ∨ (p.2.1 = q.2.1 ∧ p.2.2 < q.2.2))) := by
  unfold lexT
  by_cases e : p.1 = q.1
  · rw [if_pos e]
    by_cases e2 : p.2.1 = q.2.1
    · rw [if_pos e2, decide_eq_true_eq]; omega
    · rw [if_neg e2, decide_eq_true_eq]; omega
  · rw [if_neg e, decide_eq_true_eq]; omega
theorem lexT_no {p q : Tri} : lexT p q = false ↔ ¬ (p.1 < q.1 ∨ (p.1 = q.1 ∧ (p.2.1 < q.2.1 ∨ (p.2.1 = q.2.1 ∧ p.2.2 < q.2.2)))) := by
  rw [← lexT_iff]
  cases lexT p q <;> simp
theorem swoT {α : Type} (k : α → Tri) : Swo fun v u => lexT (k v) (k u) := by
  refine ⟨fun x y h => ?_, fun x y z h1 h2 => ?_⟩
  · have a := lexT_iff.mp h
    refine lexT_no.mpr ?_
    omega
  · have a := lexT_no.mp h1
    have b := lexT_no.mp h2
    refine lexT_no.mpr ?_
    omega
def IsTri (h : Heap) (v : Value) (x : Int) (b : Bool) (z : Int) : Prop := ∃ a o t u n, v = .ref a ∧ h.get? a = some o ∧ o.cls = .type "tuple" ∧ o.data = .seq #[.int x t, .bool b, .int z u] n
def TriAt (h : Heap) (v : Value) (k : Tri) : Prop := ∃ b : Bool, k.2.1 = b2i b ∧ IsTri h v k.1 b k.2.2
theorem TriAt.keeps {h h' : Heap} {v : Value} {k : Tri} (p : TriAt h v k) (q : ∀ b o, h.get? b = some o → o.cls = .type "tuple" → h'.get? b = some o) : TriAt h' v k := by
  obtain ⟨b, e0, a, o, t, u, n, e, ho, hc, hd⟩ := p
  exact ⟨b, e0, a, o, t, u, n, e, q _ _ ho hc, hc, hd⟩
section
variable {prog : Program} {w : World} {A : Around} {E : Value → Shared → Prop} {s : Shared}
theorem b2i_eq {b c : Bool} : b2i b = b2i c ↔ b = c := by cases b <;> cases c <;> simp [b2i]
theorem tri_cmp {vs : List Value} {k : Value → Tri} (hp : ∀ v ∈ vs, TriAt s.heap v (k v)) : Cmp prog w A s (tuples' true) (fun p => p.1 ∈ vs) (lt2 fun v u => lexT (k v) (k u)) := by
  intro p q hm hm'
  have h1 := hp _ hm
  have h2 := hp _ hm'
  show wpAny (model prog w) A (keyLt' (tuples' true) p.1 q.1) (fun r s' => s' = s ∧ r = lexT (k p.1) (k q.1)) (fun _ _ => False) s
  unfold lexT
  generalize k p.1 = K1 at h1 ⊢
  generalize k q.1 = K2 at h2 ⊢
  obtain ⟨x, y0, z⟩ := K1
  obtain ⟨x', y0', z'⟩ := K2
  obtain ⟨y, e0, a, o, t, u, n, e, ho, hc, hd⟩ := h1
  obtain ⟨y', e0', a', o', t', u', n', e', ho', hc', hd'⟩ := h2
  simp only at e0 e0' hd hd' ⊢
  subst e0 e0'
  rw [e, e']
  refine PySem.W.kat_lt ho hd ho' hd' ?_
  show PySem.W.KatLex prog w A true (decide (3 < 3)) _ [(.int x t, .int x' t'), (.bool y, .bool y'), (.int z u, .int z' u')] 0 s
  refine PySem.W.kat_cons (SeqAt.EqAt.int_int x t x' t' prog w _ _ ?_)
  refine PySem.W.kat_go (fun e1 => ?_) (fun e1 => ?_)
  · have ex : x = x' := by simpa using e1
    rw [if_pos ex]
    refine PySem.W.kat_yes (PySem.W.kat_cons (SeqAt.EqAt.bool_bool y y' prog w _ _ ?_))
    refine PySem.W.kat_go (fun e2 => ?_) (fun e2 => ?_)
    · have ey : y = y' := by simpa using e2
      rw [if_pos (b2i_eq.mpr ey)]
      refine PySem.W.kat_yes (PySem.W.kat_cons (SeqAt.EqAt.int_int z u z' u' prog w _ _ ?_))
      refine PySem.W.kat_go (fun e3 => ?_) (fun e3 => ?_)
      · have ez : z = z' := by simpa using e3
        exact PySem.W.kat_yes (PySem.W.kat_nil ⟨rfl, by rw [ez]; exact (decide_eq_false (Int.lt_irrefl _)).symm⟩)
      · refine PySem.W.kat_no (PySem.W.kat_one _ _ (PyProof.Rows.lt_int ?_))
        exact (show s = s ∧ decide (z < z') = decide (z < z') from ⟨rfl, rfl⟩)
    · have ey : ¬ y = y' := by simpa using e2
      rw [if_neg fun z => ey (b2i_eq.mp z)]
      refine PySem.W.kat_no (PySem.W.kat_one _ _ (PyProof.Rows.lt_bool ?_))
      exact (show s = s ∧ decide (b2i y < b2i y') = decide (b2i y < b2i y') from ⟨rfl, rfl⟩)
  · have ex : ¬ x = x' := by simpa using e1
    rw [if_neg ex]
    exact PySem.W.kat_no (oneLt_int ⟨rfl, rfl⟩)
theorem firstsT {h : Heap} {k : Value → Tri} : ∀ {vs : List Value}, (∀ v ∈ vs, TriAt h v (k v)) → ∃ fs : List Value, PySem.W.KatTups h vs fs ∧ fs.length = vs.length ∧ ∀ f ∈ fs, ∃ x t, f = Value.int x t
  | [], _ => ⟨[], PySem.W.KatTups.nil, rfl, fun _ hm => by simp at hm⟩
  | v :: vs, hp => by
    obtain ⟨fs, h1, h2, h3⟩ := firstsT (k := k) (vs := vs) fun v' hm => hp v' (List.mem_cons_of_mem _ hm)
    obtain ⟨b, _, a, o, t, u, n, e, ho, hc, hd⟩ := hp v List.mem_cons_self
    generalize (k v).1 = x at hd
    subst e
    refine ⟨.int x t :: fs, PySem.W.KatTups.cons ho hc hd rfl h1, by rw [List.length_cons, List.length_cons, h2], fun f hm => ?_⟩
    rcases List.mem_cons.mp hm with rfl | hm
    · exact ⟨x, t, rfl⟩
    · exact h3 f hm
theorem tris_sortable {a : Addr} {vs : List Value} {k : Value → Tri} (h0 : 0 < vs.length) (hp : ∀ v ∈ vs, TriAt s.heap v (k v)) (ha : ∀ o, s.heap.get? a = some o → o.cls ≠ .type "tuple") : SortableO prog w A s a vs fun v u => lexT (k v) (k u) := by
  intro h' keep
  have hp' : ∀ v ∈ vs, TriAt h' v (k v) := fun v hm => (hp v hm).keeps fun b o e c => keep b o (fun z => by subst z; exact ha o e c) e
  obtain ⟨fs, h1, h2, h3⟩ := firstsT hp'
  refine ⟨tuples' true, fun Q E hq => ?_, tri_cmp hp'⟩
  refine PySem.W.kat_kind (T := .type "int") h1 (by omega) (fun f hm => ?_) (by rfl) ?_
  · obtain ⟨x, t, rfl⟩ := h3 f hm
    exact PySem.W.Looks.now
  · have e : (Value.type "int" != Value.type "tuple") = true := by first | decide +kernel | rfl | decide
    rw [e]
    exact hq
theorem sorted_tris {l : Addr} {vs : List Value} {k : Value → Tri} {Q : Value → Shared → Prop} (hl : s.heap.IsList l vs.toArray) (hz : vs.length ≤ sizeLine) (hp : ∀ v ∈ vs, TriAt s.heap v (k v))
    (h : ∀ (h' : Heap) (d : Addr) (out : List Value), Srtd (fun v u => lexT (k v) (k u)) out → Stb (fun v u => lexT (k v) (k u)) out vs → (∀ b o, s.heap.get? b = some o → h'.get? b = some o) → s.heap.objs.size ≤ d → (∃ n, h'.get? d = some (seqObj "list" out.toArray n)) → Q (.ref d) { s with heap := h' }) :
    wpAny (model prog w) A (call (.builtin "sorted") [.ref l]) Q E s := by
  refine sorted_ord (swoT k) hl hz (fun h2 h₁ a ha kk => ?_) fun out hs hb => ?_
  · refine tris_sortable (s := { s with heap := h₁ }) (by omega) (fun v hm => (hp v hm).keeps fun b o e _ => (kk b o e).2) fun o e => ?_
    have e' : some o = some (seqObj "list" vs.toArray 0) := e.symm.trans ha
    cases e'
    intro c
    exact absurd (Value.type.inj c) (by decide)
  · exact h _ _ out hs hb (fun b o e => sortedAll_old e) (Nat.le_succ _) (sortedAll_at s.heap vs out.toArray)
end
/-- sorted(xs), xs a list of triples (int, bool, int), k says which -/
def rSortedT (K : PySem.W.Frag) : List V → Hp → VK → Prop := fun vs H Q => ∃ (a : Addr) (xs : List V) (k : V → Tri), vs = [V.ref a] ∧ SqL K H a xs ∧ (∀ x ∈ xs, ∃ t b, x = V.ref t ∧ (k x).2.1 = b2i b ∧ H t = some (.tup [.int (k x).1, .bl b, .int (k x).2.2])) ∧
  ∀ ys p, Srtd (fun x y => lexT (k x) (k y)) ys → ys.Perm xs → H p = none → Q (.ref p) (upd H p (.lst ys))
section
variable {X : Cx}
theorem vals3 {x y z : V} {us : List Value} (r : Vals [x, y, z] us) : ∃ u1 u2 u3, us = [u1, u2, u3] ∧ RelV x u1 ∧ RelV y u2 ∧ RelV z u3 := by
  cases r with
  | cons a r =>
    cases r with
    | cons b r =>
      cases r with
      | cons c r =>
        cases r
        exact ⟨_, _, _, rfl, a, b, c⟩
theorem cr_sortedT3 : CallR X (.builtin "sorted") (rSortedT X.K) := by
  intro pins s σ H vs us Q I r h
  obtain ⟨a, xs, k, rfl, hs, hx, q⟩ := h
  obtain ⟨its, rv, hl, hz⟩ := I.list hs
  obtain ⟨u, rfl, ru⟩ := vals1 r
  obtain rfl : u = Value.ref a := ru
  obtain ⟨e1, e2⟩ := refs_back rv fun x m => by
    obtain ⟨t, b, e, _⟩ := hx x m
    exact ⟨t, e⟩
  refine sorted_tris (k := fun u => k (backV u)) hl.isList (by rw [← rv.length]; exact hz) (fun v hv => ?_) fun h' d out h1 h2 kp hd hn => ?_
  · obtain ⟨t, rfl⟩ := e2 v hv
    have hm : V.ref t ∈ xs := by rw [e1]; exact List.mem_map.mpr ⟨_, hv, rfl⟩
    obtain ⟨t', b, e, eb, ht⟩ := hx _ hm
    cases e
    obtain ⟨_, its2, r2, o, ho, hc, n, hd⟩ := I.hok _ _ ht
    obtain ⟨u1, u2, u3, rfl, ri, rb, rj⟩ := vals3 r2
    obtain ⟨t1, rfl⟩ := ri
    obtain ⟨t2, rfl⟩ := rj
    cases rb
    exact ⟨b, eb, t, o, t1, t2, n, rfl, ho, hc, hd⟩
  · have h3 : ∀ u ∈ out, ∃ a, u = Value.ref a := fun u hu => e2 u (h2.perm.mem_iff.mp hu)
    obtain ⟨n, hn⟩ := hn
    have hb : Stb (fun x y => lexT (k x) (k y)) (out.map backV) xs := by
      rw [e1]
      exact Stb.map (swoT k) backV h2
    refine ⟨.ref d, upd H d (.lst (out.map backV)), I.laid (t' := s.toks) kp hd ⟨?_, out, n, vals_back h3, hn⟩, rfl, q _ d (srtd_map (lt := fun x y => lexT (k x) (k y)) h1) hb.perm (I.hok.fresh hd)⟩
    rw [hb.len]
    exact hz
end
end D0
namespace D0
open PySem PySem.Spec PyProof.Rows L2
theorem reads_ints {h : Heap} : ∀ {us : List Value} {ns : List Int}, PyProof.Rows.IntsAre us ns → ReadsAll h us (ns.map .int) []
  | _, _, .nil => .nil
  | _, _, .cons n t r => ReadsAll.cons (as := []) (bs := []) (.int n t) (reads_ints r)
theorem alike_intL (ns : List Int) : PySem.W.AlikeAll (ns.map .int) := by
  refine ⟨fun x hx y hy => ?_, fun x hx => ?_⟩
  · obtain ⟨i, _, rfl⟩ := List.mem_map.mp hx
    obtain ⟨j, _, rfl⟩ := List.mem_map.mp hy
    rfl
  · obtain ⟨i, _, rfl⟩ := List.mem_map.mp hx
    exact fun z => nomatch z
theorem depthI : ∀ ns : List Int, PyData.depthAll (ns.map .int) = 0
  | [] => rfl
  | n :: ns => by
    show max (PyData.depth (.int n)) (PyData.depthAll (ns.map .int)) = 0
    rw [depthI ns]; rfl
def rMaxDef (K : PySem.W.Frag) : List V → List V → Hp → VK → Prop := fun vs zs H Q => ∃ (p : Addr) (ns : List Int) (z : V), vs = [.ref p] ∧ zs = [z] ∧ SqT K H p (ns.map V.int) ∧ (ns = [] → Q z H) ∧ ∀ n ms, ns = n :: ms → Q (.int (ms.foldl max n)) H
section
variable {X : Cx}
theorem crk_maxDef (hc : X.calm = true) (hu : X.A.units + 64 < cLine) : CallRK X (.builtin "max") [Str.ofString "default"] (rMaxDef X.K) := by
  intro pins s σ H vs zs us ws Q I r rz h
  obtain ⟨p, ns, z, rfl, rfl, hq, q0, q1⟩ := h
  obtain rfl := Vals.ref1 r
  obtain ⟨w1, rfl, e1⟩ := vals1 rz
  obtain ⟨its, rv, pt, hz⟩ := I.tuple hq
  have hi := reads_ints (h := s.heap) (ints_of_vals rv)
  refine PySem.W.max_tuple_default (vs := its.toArray) (I.ok.hd hc) pt (by simpa using hi) (alike_intL ns) (by rw [depthI]; omega) (fun e h' tk k => ?_) fun y ys i v h' tk bs e hv rd k => ?_
  · exact ⟨z, H, I.kept fun b o q => k b o q, e1, q0 (List.map_eq_nil_iff.mp e)⟩
  · cases ns with
    | nil => cases e
    | cons n ms =>
      rw [List.map_cons] at e
      injection e with e2 e3
      subst e2 e3
      rw [PySem.W.maxD_ints] at rd
      cases rd with
      | int i t => exact ⟨.int _, H, I.kept fun b o q => k b o q, ⟨_, rfl⟩, q1 n ms rfl⟩
end
end D0
namespace D0
open PySem PySem.Spec PyProof.Rows L2
def rInT (K : PySem.W.Frag) (neg : Bool) : R2 := fun x y H Q => ∃ d ds, Dp K H x d ∧ Dp K H y (.tuple ds) ∧ SeqAt.shaped d = true ∧ SeqAt.shaped (.tuple ds) = true ∧ Q (.bl (if neg then !ds.any (fun z => PyData.eqv z d) else ds.any fun z => PyData.eqv z d)) H
section
variable {X : Cx}
theorem roomT {ds : List PyData} {d : PyData} (sd : SeqAt.shaped d = true) (hu : X.A.units + 65 < cLine) : X.A.units + 1 + min (PyData.depthAll ds) d.depth < cLine := by
  unfold SeqAt.shaped at sd
  rw [Bool.and_eq_true, decide_eq_true_eq] at sd
  have := sd.2
  omega
theorem op_inT (hu : X.A.units + 65 < cLine) : OpR X (compareOp .In) (rInT X.K false) := by
  intro pins s σ H x y v u Q I rx ry h
  obtain ⟨d, ds, hd, he, sd, se, q⟩ := h
  obtain ⟨as, r1⟩ := Dp.reads I d x v hd rx
  obtain ⟨bs, r2⟩ := Dp.reads I (.tuple ds) y u he ry
  exact SeqAt.in_tuple_data r2 r1 (PyData.plainAll_of_canLay0 _ (SeqAt.canLay_of_shaped se)) (PyData.plain_of_canLay0 _ (SeqAt.canLay_of_shaped sd)) (roomT sd hu) ⟨.bl _, H, I, rfl, q⟩
theorem op_ninT (hu : X.A.units + 65 < cLine) : OpR X (compareOp .NotIn) (rInT X.K true) := by
  intro pins s σ H x y v u Q I rx ry h
  obtain ⟨d, ds, hd, he, sd, se, q⟩ := h
  obtain ⟨as, r1⟩ := Dp.reads I d x v hd rx
  obtain ⟨bs, r2⟩ := Dp.reads I (.tuple ds) y u he ry
  exact SeqAt.notIn_tuple_data r2 r1 (PyData.plainAll_of_canLay0 _ (SeqAt.canLay_of_shaped se)) (PyData.plain_of_canLay0 _ (SeqAt.canLay_of_shaped sd)) (roomT sd hu) ⟨.bl _, H, I, rfl, q⟩
end
def rInV2 (K : PySem.W.Frag) : R2 := fun x y H Q => rInV K x y H Q ∨ rInT K false x y H Q
def rNinV2 (K : PySem.W.Frag) : R2 := fun x y H Q => rNinV K x y H Q ∨ rInT K true x y H Q
section
variable {X : Cx}
theorem dInV2 (K : PySem.W.Frag) (hu : X.A.units + 65 < cLine) (hK : X.K = K := by rfl) : OpR X (compareOp .In) (rInV2 K) := by subst hK; exact (dInV _ hu).or (op_inT hu)
theorem dNinV2 (K : PySem.W.Frag) (hu : X.A.units + 65 < cLine) (hK : X.K = K := by rfl) : OpR X (compareOp .NotIn) (rNinV2 K) := by subst hK; exact (dNinV _ hu).or (op_ninT hu)
end
section
variable {prog : Program} {w : World} {A : Around} {E : Value → Shared → Prop} {s : Shared}
theorem gather_tup {p : Addr} {us : List Value} {Q : List Value → Shared → Prop} (ht : PyProof.Rows.IsTup s.heap p us.toArray) (hz : us.length ≤ sizeLine)
    (q : Q us { s with heap := (s.heap.push (PyProof.Rows.seqObj "list" #[] 0)).update s.heap.objs.size (Obj.mapSeq (· ++ us.toArray)) }) : wpAny (model prog w) A (collect (.ref p)) Q E s := by
  obtain ⟨o, h1, h2, n, h3⟩ := ht
  unfold collect
  refine wpAny_bind (wpAny_runValue (codeAny_builtin PyProof.Rows.entry_proto_collect' ?c))
  show wpAny _ _ (do again (.builtin "list.__iadd__" ⟨[← newList [], Value.ref p], []⟩)) _ _ s
  refine wpAny_bind (wpAny_newList (wpAny_pure ⟨Code.quiet_builtin _ (by decide +kernel), codeAny_builtin PyProof.Rows.entry_list_iadd' ?d⟩) (Nat.zero_le _))
  show wpAny _ _ (Builtin.List.listExtendWith (Value.ref s.heap.objs.size) (Value.ref p) (Value.ref s.heap.objs.size)) _ _ { s with heap := s.heap.push (PyProof.Rows.seqObj "list" #[] 0) }
  unfold Builtin.List.listExtendWith
  have g1 : (s.heap.push (PyProof.Rows.seqObj "list" #[] 0)).get? p = some o := Heap.get?_push_of_some _ h1
  have g2 : (s.heap.push (PyProof.Rows.seqObj "list" #[] 0)).get? s.heap.objs.size = some (PyProof.Rows.seqObj "list" #[] 0) := Heap.get?_push_size _ rfl
  refine wpAny_bind (wpAny_typeOf (T := "tuple") ⟨o, g1, h2⟩ ?_)
  have tt : (Value.type "tuple" == Value.type "tuple") = true := by rfl
  rw [if_pos (by rw [tt]; simp)]
  refine wpAny_bind (PyProof.Rows.listItems_at g1 h3 ?_)
  refine wpAny_bind (PyProof.Rows.listItems_at (xs := #[]) (n := 0) g2 rfl ?_)
  rw [if_neg (by simp)]
  refine wpAny_bind (PyProof.Rows.listUpdate_at (xs := #[]) (n := 0) g2 rfl ?_ (Nat.zero_le _) (by rw [Array.size_append, List.size_toArray]; simp only [List.size_toArray, List.length_nil]; omega))
  refine wpAny_pure ?_
  show wpAny (model prog w) A (do
      let ob ← load s.heap.objs.size
      match ob.data with
      | .seq ys _ => pure ys.toList
      | _ => unsupported "internal:collect") Q E { s with heap := (s.heap.push (PyProof.Rows.seqObj "list" #[] 0)).update s.heap.objs.size (Obj.mapSeq (· ++ us.toArray)) }
  refine wpAny_bind (wpAny_load (PyProof.Rows.get?_update_seq g2 _) ?_)
  have e : ((#[] : Array Value) ++ us.toArray).toList = us := by simp
  show wpAny _ _ (pure ((#[] : Array Value) ++ us.toArray).toList) Q E _
  rw [e]
  exact wpAny_pure q
theorem sort_data_tup {p : Addr} {us : List Value} {β : Type} {bs : List β} {enc : β → PyData} {R : Value → β → Prop} {Q : Value → Shared → Prop} (ht : PyProof.Rows.IsTup s.heap p us.toArray) (e : PySem.W.EachIs R us bs)
    (er : PySem.W.EachIs (fun v b => ∃ as, Reads s.heap v (enc b) as) us bs) (hal : PySem.W.AllAlike (bs.map enc)) (hk : PySem.W.Sortable (bs.map enc)) (hL : bs.length ≤ sizeLine) (hu : ∀ b, b ∈ bs → A.units + 2 + (enc b).depth < cLine)
    (h : ∀ out : List Value, out.length = bs.length → PySem.W.EachIs R out (bs.mergeSort (PySem.W.dataLe false enc)) → Q (.ref (s.heap.objs.size + 1)) { s with heap := PyProof.Rows.sortedAll s.heap us out.toArray }) : wpAny (model prog w) A (call (.builtin "sorted") [.ref p]) Q E s := by
  have er' : PySem.W.EachIs (fun v b => ∃ as, Reads (PySem.W.sortingHeap (PySem.W.copyHeap s.heap us) (s.heap.objs.size + 1) us) v (enc b) as) us bs := er.mono fun _ _ ⟨as, r⟩ => ⟨as, PyProof.Rows.Reads.keeps (fun _ _ => PySem.W.sorting_copy_old) r⟩
  have hl : us.length ≤ sizeLine := by rw [e.length]; exact hL
  refine Calls.call_function_entry PyProof.Rows.kind_sorted PyProof.Rows.plain_sorted PyProof.Rows.entry_sorted (PyProof.Rows.args_sorted1 _) ?_
  unfold Builtin.«sorted»
  refine wpAny_bind (m := checkCount "sorted" 1 1 _) (wpAny_pure ?_)
  refine wpAny_bind (gather_tup ht hl ?_)
  refine wpAny_bind (wpAny_newList ?_ hl)
  have hs1 : ((s.heap.push (PyProof.Rows.seqObj "list" #[] 0)).update s.heap.objs.size (Obj.mapSeq (· ++ us.toArray))).objs.size = s.heap.objs.size + 1 := by rw [Heap.size_update, PyProof.Rows.size_push']
  show wpAny _ _ _ _ _ { s with heap := PySem.W.copyHeap s.heap us }
  rw [hs1]
  refine wpAny_bind (wpAny_holding (wpAny_call_entry PyProof.Rows.slot_list_sort ⟨_, PySem.W.copyHeap_at s.heap us, rfl⟩ PyProof.Rows.entry_list_sort ?b (PyProof.Rows.args_list_sort _)))
  case b =>
    refine PySem.W.list_sort_vals (s := { s with heap := PySem.W.copyHeap s.heap us }) (PySem.W.copyHeap_at s.heap us) (PySem.W.SortsAt.data (s := { s with heap := PySem.W.sortingHeap (PySem.W.copyHeap s.heap us) (s.heap.objs.size + 1) us }) (PySem.W.each_map (R := fun v d => ∃ as, Reads (PySem.W.sortingHeap (PySem.W.copyHeap s.heap us) (s.heap.objs.size + 1) us) v d as) enc er') hal hk (PySem.W.bound_map hu)) hl ?_
    exact ⟨_, rfl, wpAny_pure ⟨_, rfl, h _ (by rw [PySem.W.sortVals_length false rfl]; exact e.length) (PySem.W.sortVals_data false e er' hal)⟩⟩
end
/-- sorted(xs), xs a list or a tuple of data of one kind -/
def rSortD (K : PySem.W.Frag) : List V → Hp → VK → Prop := fun vs H Q => ∃ (a : Addr) (xs : List V) (ds : List PyData), vs = [.ref a] ∧ (SqL K H a xs ∨ SqT K H a xs) ∧ DpAll K H xs ds ∧ PySem.W.AllAlike ds ∧ PySem.W.Sortable ds ∧ (∀ d ∈ ds, d.depth ≤ 60) ∧
  ∀ (ps : List (V × PyData)) p, ps.Perm (xs.zip ds) → ps.map Prod.snd = ds.mergeSort (PySem.W.dataLe false id) → H p = none → Q (.ref p) (upd H p (.lst (ps.map Prod.fst)))
section
variable {X : Cx}
theorem each_zip : ∀ {xs : List V} {us : List Value} {ds : List PyData}, Vals xs us → xs.length = ds.length → PySem.W.EachIs (fun u (b : V × PyData) => RelV b.1 u) us (xs.zip ds)
  | _, _, [], .nil, _ => .nil
  | _, _, d :: ds, .cons r t, h => .cons r (each_zip t (by simpa using h))
theorem vals_each : ∀ {us : List Value} {bs : List (V × PyData)}, PySem.W.EachIs (fun u (b : V × PyData) => RelV b.1 u) us bs → Vals (bs.map Prod.fst) us
  | _, _, .nil => .nil
  | _, _, .cons h t => .cons h (vals_each t)
theorem dpAll_len {K : PySem.W.Frag} {H : Hp} : ∀ {xs : List V} {ds : List PyData}, DpAll K H xs ds → xs.length = ds.length
  | _, _, .nil => rfl
  | _, _, .cons _ t => congrArg (· + 1) (dpAll_len t)
theorem cr_sortD (hu : X.A.units + 64 < cLine) : CallR X (.builtin "sorted") (rSortD X.K) := by
  intro pins s σ H vs us Q I r h
  obtain ⟨a, xs, ds, rfl, hq, hd, hal, hk, hdep, q⟩ := h
  obtain rfl := Vals.ref1 r
  have ln := dpAll_len hd
  have sn : (xs.zip ds).map Prod.snd = ds := List.map_snd_zip (by omega)
  have fin : ∀ (its : List Value), Vals xs its → xs.length ≤ sizeLine → ∀ out : List Value, out.length = (xs.zip ds).length → PySem.W.EachIs (fun u (b : V × PyData) => RelV b.1 u) out ((xs.zip ds).mergeSort (PySem.W.dataLe false Prod.snd)) →
      ∃ (v : V) (H' : Hp), Inv X pins σ H' { s with heap := PyProof.Rows.sortedAll s.heap its out.toArray } ∧ RelV v (.ref (s.heap.objs.size + 1)) ∧ Q v H' := fun its rv hz out _ eo => by
    obtain ⟨ep, he'⟩ := PyProof.Rows.sortedAll_at s.heap its out.toArray
    have pm := List.mergeSort_perm (xs.zip ds) (PySem.W.dataLe false Prod.snd)
    refine ⟨.ref _, upd H (s.heap.objs.size + 1) (.lst (((xs.zip ds).mergeSort (PySem.W.dataLe false Prod.snd)).map Prod.fst)), I.laid (t' := s.toks) (fun _ _ => PyProof.Rows.sortedAll_old) (Nat.le_succ _) ⟨?_, out, ep, vals_each eo, he'⟩, rfl, q _ _ pm ?_ (I.hok.fresh (Nat.le_succ _))⟩
    · rw [List.length_map, pm.length_eq, List.length_zip]; omega
    · rw [List.map_mergeSort (r := PySem.W.dataLe false Prod.snd) (s := PySem.W.dataLe false id) (fun a _ b _ => rfl), sn]
  have rs : ∀ its : List Value, Vals xs its → PySem.W.EachIs (fun v (b : V × PyData) => ∃ as, Reads s.heap v b.2 as) its (xs.zip ds) := fun its rv => by
    obtain ⟨as, h4⟩ := Dp.readsAll I ds _ its hd rv
    exact PySem.W.readsAll_each (Prod.snd : V × PyData → PyData) (by rw [sn]; exact h4)
  have hb : ∀ b, b ∈ xs.zip ds → X.A.units + 2 + (Prod.snd b).depth < cLine := fun b hb => by
    have := hdep b.2 (List.of_mem_zip hb).2
    omega
  rcases hq with hq | hq
  · obtain ⟨its, rv, hl, hz⟩ := I.list hq
    exact PySem.W.sorted_data (enc := Prod.snd) hl.isList (each_zip rv ln) (rs its rv) (by rw [sn]; exact hal) (by rw [sn]; exact hk) (by rw [List.length_zip]; omega) hb (fin its rv hz)
  · obtain ⟨its, rv, hl, hz⟩ := I.tuple hq
    exact sort_data_tup (enc := Prod.snd) hl (each_zip rv ln) (rs its rv) (by rw [sn]; exact hal) (by rw [sn]; exact hk) (by rw [List.length_zip]; omega) hb (fin its rv hz)
/-- max, min of a tuple of ints -/
def rTopT (K : PySem.W.Frag) (f : Int → Int → Int) : List V → Hp → VK → Prop := fun vs H Q => ∃ (p : Addr) (n : Int) (ms : List Int), vs = [.ref p] ∧ SqT K H p ((n :: ms).map V.int) ∧ Q (.int (ms.foldl f n)) H
theorem cr_maxT (hc : X.calm = true) (hu : X.A.units + 64 < cLine) : CallR X (.builtin "max") (rTopT X.K max) := by
  intro pins s σ H vs us Q I r h
  obtain ⟨p, n, ms, rfl, hq, q⟩ := h
  obtain rfl := Vals.ref1 r
  obtain ⟨its, rv, pt, hz⟩ := I.tuple hq
  have hi := reads_ints (h := s.heap) (ints_of_vals rv)
  refine PySem.W.max_tuple_data (vs := its.toArray) (x := .int n) (xs := ms.map .int) (I.ok.hd hc) pt (by simpa using hi) (alike_intL (n :: ms)) (by rw [show PyData.depthAll (.int n :: ms.map .int) = 0 from depthI (n :: ms)]; omega) fun i v h' tk bs e rd k => ?_
  rw [PySem.W.maxD_ints] at rd
  cases rd with
  | int i t => exact ⟨.int _, H, I.kept fun b o q => k b o q, ⟨_, rfl⟩, q⟩
theorem cr_minT (hc : X.calm = true) (hu : X.A.units + 64 < cLine) : CallR X (.builtin "min") (rTopT X.K min) := by
  intro pins s σ H vs us Q I r h
  obtain ⟨p, n, ms, rfl, hq, q⟩ := h
  obtain rfl := Vals.ref1 r
  obtain ⟨its, rv, pt, hz⟩ := I.tuple hq
  have hi := reads_ints (h := s.heap) (ints_of_vals rv)
  refine PySem.W.min_tuple_data (vs := its.toArray) (x := .int n) (xs := ms.map .int) (I.ok.hd hc) pt (by simpa using hi) (alike_intL (n :: ms)) (by rw [show PyData.depthAll (.int n :: ms.map .int) = 0 from depthI (n :: ms)]; omega) fun i v h' tk bs e rd k => ?_
  rw [PySem.W.minD_ints] at rd
  cases rd with
  | int i t => exact ⟨.int _, H, I.kept fun b o q => k b o q, ⟨_, rfl⟩, q⟩
theorem dSortD (K : PySem.W.Frag) (hu : X.A.units + 64 < cLine) (hK : X.K = K := by rfl) : CallR X (.builtin "sorted") (rSortD K) := by subst hK; exact cr_sortD hu
theorem dMaxT (K : PySem.W.Frag) (hc : X.calm = true) (hu : X.A.units + 64 < cLine) (hK : X.K = K := by rfl) : CallR X (.builtin "max") (rTopT K max) := by subst hK; exact cr_maxT hc hu
theorem dMinT (K : PySem.W.Frag) (hc : X.calm = true) (hu : X.A.units + 64 < cLine) (hK : X.K = K := by rfl) : CallR X (.builtin "min") (rTopT K min) := by subst hK; exact cr_minT hc hu
theorem dMaxDef (K : PySem.W.Frag) (hc : X.calm = true) (hu : X.A.units + 64 < cLine) (hK : X.K = K := by rfl) : CallRK X (.builtin "max") [Str.ofString "default"] (rMaxDef K) := by subst hK; exact crk_maxDef hc hu
end
end D0
namespace D0
open PySem PySem.Spec PyProof.Rows L2
def rIns : V → List V → Hp → VK → Prop := fun x vs H Q => ∃ (l : Addr) (xs : List V) (i : Int) (y : V), x = .ref l ∧ vs = [.int i, y] ∧ H l = some (.lst xs) ∧ xs.length < sizeLine ∧ 0 ≤ i ∧ i < 2 ^ 63 ∧
    Q .non (upd H l (.lst (xs.take i.toNat ++ [y] ++ xs.drop i.toNat)))
theorem dInsert {X : Cx} : MtR X "list.insert" rIns := mt_insert
end D0
namespace D0
open PySem PySem.Spec PyProof.Rows L2
structure TabO (H : Hp) (t : Addr) (rs : List Addr) (os : List HO) : Prop where
  tb : H t = some (.lst (rs.map V.ref))
  rw : Paired (fun r o => H r = some o) rs os
section
variable {H H' : Hp} {t : Addr} {rs : List Addr} {os : List HO}
theorem TabO.len (x : TabO H t rs os) : rs.length = os.length := Paired.len x.rw
theorem TabO.get {i : Nat} {o : HO} (x : TabO H t rs os) (h : os[i]? = some o) : ∃ r, rs[i]? = some r ∧ H r = some o ∧ atI (rs.map V.ref) (i : Int) = some (.ref r) := by
  obtain ⟨r, e, h2⟩ := Paired.get2 x.rw h
  exact ⟨r, e, h2, atI_nat (by rw [List.getElem?_map, e]; rfl)⟩
theorem TabO.put {i : Nat} {r : Addr} (x : TabO H t rs os) (nd : rs.Nodup) (nt : t ∉ rs) (er : rs[i]? = some r) (o : HO) : TabO (upd H r o) t rs (os.set i o) := by
  refine ⟨?_, Paired.of_get (by rw [List.length_set]; exact x.len) fun j q o' h1 h2 => ?_⟩
  · rw [upd_ne fun e => nt (by rw [e]; exact List.mem_of_getElem? er)]
    exact x.tb
  · rw [List.getElem?_set] at h2
    by_cases e : i = j
    · subst e
      rw [if_pos rfl] at h2
      split at h2
      · cases h2
        rw [h1] at er; cases er
        exact upd_same
      · cases h2
    · rw [if_neg e] at h2
      obtain ⟨o2, e2, h3⟩ := Paired.get1 x.rw h1
      rw [h2] at e2; cases e2
      rw [upd_ne fun z => ?_]
      · exact h3
      · subst z
        obtain ⟨l1, g1⟩ := List.getElem?_eq_some_iff.mp er
        obtain ⟨l2, g2⟩ := List.getElem?_eq_some_iff.mp h1
        exact e ((List.getElem_inj nd).mp (g1.trans g2.symm))
theorem TabO.offs {S : List Addr} (x : TabO H t rs os) (f : OffS S H H') (ht : t ∉ S) (hr : ∀ r ∈ rs, r ∉ S) : TabO H' t rs os := by
  refine ⟨f _ _ ht x.tb, Paired.of_get x.len fun i r o h1 h2 => ?_⟩
  obtain ⟨o2, e, h⟩ := Paired.get1 x.rw h1
  rw [h2] at e; cases e
  exact f _ _ (hr r (List.mem_of_getElem? h1)) h
end
section
variable {K : PySem.W.Frag} {σ : L2.St} {H : Hp} {Q : VK} {te : TE} {vs : List Nat} {g : TG} {tt : TT}
/-- a comprehension of new objects of one's own -/
theorem lc_freshO {J : It} {n : Nat} {G : Hp → Prop} {Y : Nat → Hp → V → Hp → Prop} (w : Walk J n G Y) (f : HO) (hn : n ≤ 100000)
    (hG : ∀ H', Same H H' → G H') (hY : ∀ i H' x H2, Y i H' x H2 → Same H' H2)
    (he : ∀ (i : Nat) (x : V) (H' H2 : Hp) (Nx : VK) (E : Hp → Prop), i < n → Same H H' → Same H' H2 → Y i H' x H2 → (∀ r H'', Same H2 H'' → H2 r = none → H'' r = some f → Nx (.ref r) H'') →
      g x (wipe σ vs) H2 fun σ2 H3 => wipe σ2 vs = wipe σ vs ∧ tt σ2 H3 fun b H4 => if b = true then te σ2 H4 Nx else E H4)
    (q : ∀ D rs H', H D = none → Same H H' → TabO H' D rs (List.replicate n f) → rs.Nodup → (∀ r ∈ rs, H r = none ∧ r ≠ D) → Q (.ref D) H') : LC J g tt te vs σ H Q := by
  intro D hD
  refine lc_it w (fun i H' => Same H H' ∧ ∃ rs, TabO H' D rs (List.replicate i f) ∧ rs.Nodup ∧ ∀ r ∈ rs, H r = none ∧ r ≠ D) ⟨same_upd hD, [], ⟨upd_same, .nil⟩, List.nodup_nil, fun _ h => nomatch h⟩ (fun i H' _ h => hG _ h.1) ?_ ?_
  · rintro i x H' H2 hi ⟨s, rs, p, nd, fr⟩ hy
    have s2 : Same H' H2 := hY _ _ _ _ hy
    have hlen : rs.length = i := by rw [p.len, List.length_replicate]
    refine he i x H' H2 _ _ hi s s2 hy fun r H'' s3 r0 er => ?_
    have s23 := s2.trans s3
    have rD : r ≠ D := (ne_of_none (s2 _ _ p.tb) r0).symm
    refine ⟨rs.map V.ref, s23 _ _ p.tb, sz4' (by rw [List.length_map]; omega), ?_, rs ++ [r], ⟨?_, ?_⟩, ?_, ?_⟩
    · intro b o eb
      rw [upd_ne (ne_of_none eb hD)]
      exact s23 _ _ (s _ _ eb)
    · rw [upd_same, List.map_append]; rfl
    · rw [List.replicate_succ']
      refine Paired.app ?_ (.cons (hp_set rD er) .nil)
      exact Paired.of_get p.len fun k r' o' h1 h2 => by
        obtain ⟨i2, e2, h3⟩ := Paired.get1 p.rw h1
        rw [h2] at e2; cases e2
        exact hp_set (fr r' (List.mem_of_getElem? h1)).2 (s23 _ _ h3)
    · refine List.nodup_append.mpr ⟨nd, List.nodup_cons.mpr ⟨by simp, List.nodup_nil⟩, fun a ha b hb e => ?_⟩
      rw [List.mem_singleton.mp hb] at e
      subst e
      obtain ⟨k, hk, e3⟩ := List.mem_iff_getElem.mp ha
      obtain ⟨i2, _, h3⟩ := Paired.get1 p.rw (List.getElem?_eq_getElem hk)
      rw [e3] at h3
      rw [s2 _ _ h3] at r0; cases r0
    · intro r' hr'
      rcases List.mem_append.mp hr' with hr' | hr'
      · exact fr r' hr'
      · rw [List.mem_singleton.mp hr']
        refine ⟨?_, rD⟩
        cases eH : H r with
        | none => rfl
        | some o => rw [s2 _ _ (s _ _ eH)] at r0; cases r0
  · rintro H' ⟨s, rs, p, nd, fr⟩
    exact q D rs H' hD s p nd fr
end
end D0
namespace D0
open PySem PySem.Spec PyProof.Rows L2
def TupIs (H : Hp) (y : V) (p : List V) : Prop := ∃ a, y = .ref a ∧ H a = some (.tup p)
theorem TupIs.off {D : Addr} {H H' : Hp} {y : V} {p zs : List V} (e : H D = some (.lst zs)) (f : Off D H H') (h : TupIs H y p) : TupIs H' y p := by
  obtain ⟨a, rfl, h⟩ := h
  exact ⟨a, rfl, f _ _ (fun z => by rw [z, e] at h; cases h) h⟩
theorem TupIs.same {H H' : Hp} {y : V} {p : List V} (f : Same H H') (h : TupIs H y p) : TupIs H' y p := by
  obtain ⟨a, rfl, h⟩ := h
  exact ⟨a, rfl, f _ _ h⟩
theorem TupIs.set {D : Addr} {H : Hp} {y : V} {p zs zs' : List V} (e : H D = some (.lst zs)) (h : TupIs H y p) : TupIs (upd H D (.lst zs')) y p := by
  obtain ⟨a, rfl, h⟩ := h
  exact ⟨a, rfl, by rw [upd_ne fun z => by rw [z, e] at h; cases h]; exact h⟩
section
variable {σ σ2 : L2.St} {H H5 : Hp} {Q : VK} {te : TE} {vs vs1 : List Nat} {g g1 : TG} {tt tt1 : TT} {wi wi1 : TI} {D : Addr} {Nx : Hp → Prop}
theorem li_tup {J1 : It} {m : Nat} {G1 : Hp → Prop} {Y1 : Nat → Hp → V → Hp → Prop} (w : Walk J1 m G1 Y1) (kp1 : Nat → Bool) (f : Nat → List V) (ps : List (List V)) {zs0 : List V} (e0 : H5 D = some (.lst zs0)) (p0 : Paired (TupIs H5) zs0 ps) (hz : ps.length + m ≤ 100000)
    (hG : ∀ H', Off D H5 H' → G1 H') (hY : ∀ i H' x H2, Y1 i H' x H2 → Same H' H2)
    (he : ∀ (j : Nat) (x : V) (H' H2 : Hp) (Qx : VK) (E : Hp → Prop), j < m → Off D H5 H' → (∃ zs, H' D = some (.lst zs)) → Same H' H2 → Y1 j H' x H2 → (kp1 j = true → ∀ y H'', Same H2 H'' → TupIs H'' y (f j) → Qx y H'') → (kp1 j = false → ∀ H'', Same H2 H'' → E H'') →
      g1 x (wipe σ2 vs1) H2 fun σ3 H3 => wipe σ3 vs1 = wipe σ2 vs1 ∧ tt1 σ3 H3 fun b H4 => if b = true then te σ3 H4 Qx else E H4)
    (q : ∀ H' zs, Off D H5 H' → H' D = some (.lst zs) → Paired (TupIs H') zs (ps ++ ((List.range m).filter kp1).map f) → Nx H') : LI J1 g1 tt1 te vs1 σ2 D Nx H5 := by
  have ext : ∀ {j : Nat} {H1 H2 : Hp} {zs : List V}, Off D H5 H1 → Same H1 H2 → H1 D = some (.lst zs) → Paired (TupIs H1) zs (ps ++ ((List.range j).filter kp1).map f) → Off D H5 H2 ∧ H2 D = some (.lst zs) ∧ Paired (TupIs H2) zs (ps ++ ((List.range j).filter kp1).map f) :=
    fun o s e p => ⟨o.trans (Off.of_same s), s _ _ e, Paired.mapP p fun _ _ h => h.same s⟩
  refine ⟨fun j k H => k = m - j ∧ j ≤ m ∧ Off D H5 H ∧ ∃ zs, H D = some (.lst zs) ∧ Paired (TupIs H) zs (ps ++ ((List.range j).filter kp1).map f), ⟨m, by simp, Nat.zero_le _, Off.refl _ _, zs0, e0, by simpa using p0⟩, ?_⟩
  rintro j k H ⟨rfl, hj, o, zs, e, p⟩
  have hg := hG H o
  by_cases hlt : j < m
  · refine .inr ⟨w.goes j H hlt hg, fun H' => Off D H5 H' ∧ ∃ zs, H' D = some (.lst zs) ∧ Paired (TupIs H') zs (ps ++ ((List.range (j + 1)).filter kp1).map f), fun H' p => ⟨m - (j + 1), by omega, rfl, hlt, p.1, p.2⟩, fun x H' y => ?_⟩
    have y' := w.yields j H x H' hlt hg y
    have s := hY _ _ _ _ y'
    refine he j x H H' _ _ hlt o ⟨_, e⟩ s y' (fun hk yv H'' s2 ty => ?_) (fun hk H'' s2 => ?_)
    · obtain ⟨o2, e2, p2⟩ := ext o (s.trans s2) e p
      have ln := Paired.len p2
      rw [List.length_append, List.length_map] at ln
      have := List.length_filter_le kp1 (List.range j)
      rw [List.length_range] at this
      refine ⟨_, e2, sz4' (by omega), o2.set, _, upd_same, ?_⟩
      rw [List.range_succ, List.filter_append, List.map_append, ← List.append_assoc]
      refine Paired.app (Paired.mapP p2 fun _ _ h => h.set e2) ?_
      simp only [List.filter_cons, hk, if_true, List.filter_nil, List.map_cons, List.map_nil]
      exact .cons (ty.set e2) .nil
    · obtain ⟨o2, e2, p2⟩ := ext o (s.trans s2) e p
      refine ⟨o2, _, e2, ?_⟩
      rw [List.range_succ, List.filter_append]
      simpa [hk] using p2
  · have ej : j = m := by omega
    subst ej
    exact .inl ⟨w.stops H hg, q H zs o e p⟩
theorem lc2_tup {J : It} {n : Nat} {G : Hp → Prop} {Y : Nat → Hp → V → Hp → Prop} (w : Walk J n G Y) (L : Nat → List (List V))
    (hG : ∀ H', Same H H' → G H') (hY : ∀ i H' x H2, Y i H' x H2 → Same H' H2)
    (he : ∀ (D : Addr) (i : Nat) (x : V) (H' H2 : Hp) (zs : List V) (Nx : Hp → Prop), i < n → H D = none → H2 D = some (.lst zs) → Paired (TupIs H2) zs ((List.range i).flatMap L) → Same H H' → Same H' H2 → Y i H' x H2 → (∀ H'' zs, Off D H2 H'' → H'' D = some (.lst zs) → Paired (TupIs H'') zs ((List.range i).flatMap L ++ L i) → Nx H'') →
      g x (wipe σ vs) H2 fun σ2 H3 => wipe σ2 vs = wipe σ vs ∧ tt σ2 H3 fun b H4 => if b = true then wi1 σ2 H4 fun J1 H5 => LI J1 g1 tt1 te vs1 σ2 D Nx H5 else Nx H4)
    (q : ∀ D zs H', H D = none → Same H H' → H' D = some (.lst zs) → Paired (TupIs H') zs ((List.range n).flatMap L) → Q (.ref D) H') : LC2 J g tt wi1 g1 tt1 te vs vs1 σ H Q := by
  intro D hD
  refine ⟨fun i k H' => k = n - i ∧ i ≤ n ∧ Same H H' ∧ ∃ zs, H' D = some (.lst zs) ∧ Paired (TupIs H') zs ((List.range i).flatMap L), ⟨n, by simp, Nat.zero_le _, same_upd hD, [], upd_same, .nil⟩, ?_⟩
  rintro i k H' ⟨rfl, hi, s, zs, e, p⟩
  have hg := hG H' s
  by_cases hlt : i < n
  · refine .inr ⟨w.goes i H' hlt hg, fun H'' => Same H H'' ∧ ∃ zs, H'' D = some (.lst zs) ∧ Paired (TupIs H'') zs ((List.range (i + 1)).flatMap L), fun H'' p => ⟨n - (i + 1), by omega, rfl, hlt, p.1, p.2⟩, fun x H2 y => ?_⟩
    have y' := w.yields i H' x H2 hlt hg y
    have s2 := hY _ _ _ _ y'
    refine he D i x H' H2 zs _ hlt hD (s2 _ _ e) (Paired.mapP p fun _ _ h => h.same s2) s s2 y' fun H'' zs' o e2 p2 => ⟨fun b u eb => ?_, zs', e2, ?_⟩
    · exact o b u (ne_of_none eb hD) (s2 _ _ (s _ _ eb))
    · rw [List.range_succ, List.flatMap_append]
      simpa using p2
  · have ei : i = n := by omega
    subst ei
    exact .inl ⟨w.stops H' hg, q D zs H' hD s e p⟩
end
/-- the keys of a locked dict -/
theorem walk_keys {d : Addr} {o : Obj} {kvs : List (Key × V)} : Walk (Itk d o kvs) kvs.length (fun H => H d = some (.frz o (.dK kvs))) (YAt (kvs.map fun kv => kV kv.1)) := by
  refine ⟨fun i H hi h => ⟨h, hi⟩, fun H h => ⟨h, Nat.le_refl _⟩, fun i H x H' hi h y => ?_⟩
  obtain ⟨rfl, k, v, e, rfl⟩ := y
  exact ⟨rfl, by rw [List.getElem?_map, e]; rfl⟩
/-- two dicts are walked, both locked (the second one may be the first) -/
theorem lock2 {t : TE} {σ : L2.St} {H : Hp} {Q : VK} {d1 d2 j : Addr} {k1 k2 : List (Key × V)} {xs : List V} {P : List (List V)} (h1 : H d1 = some (.dK k1)) (h2 : H d2 = some (.dK k2)) (hj : H j = some (.lst xs))
    (q : ∀ HL o1 o2 (Q' : VK), HL d1 = some (.frz o1 (.dK k1)) → HL d2 = some (.frz o2 (.dK k2)) → (∀ a ys, H a = some (.tup ys) → HL a = some (.tup ys)) →
      (∀ D zs H', HL D = none → Same HL H' → H' D = some (.lst zs) → Paired (TupIs H') zs P → Q' (.ref D) H') → t σ HL Q')
    (k : ∀ D zs H', H D = none → Same H H' → H' D = some (.lst zs) → Paired (TupIs H') zs P → Q (.ref D) H') : tLockE (tLockE t) σ H Q := by
  have core : ∀ (x : Addr) (u : HO), x ≠ d1 → H x = some u → Mut (some u) → (∀ (o1 o2 : Obj), ∃ o, upd (upd H d1 (.frz o1 (.dK k1))) x (.frz o2 u) d2 = some (.frz o (.dK k2))) → tLockE (tLockE t) σ H Q := by
    intro x u xd hx mu h2'
    refine ⟨d1, _, h1, trivial, fun o1 => ⟨x, u, by rw [upd_ne xd]; exact hx, mu, fun o2 => ?_⟩⟩
    obtain ⟨o3, h3⟩ := h2' o1 o2
    have l1 : upd (upd H d1 (.frz o1 (.dK k1))) x (.frz o2 u) d1 = some (.frz o1 (.dK k1)) := by rw [upd_ne fun z => xd z.symm]; exact upd_same
    have lx : upd (upd H d1 (.frz o1 (.dK k1))) x (.frz o2 u) x = some (.frz o2 u) := upd_same
    have lo : ∀ a, a ≠ d1 → a ≠ x → upd (upd H d1 (.frz o1 (.dK k1))) x (.frz o2 u) a = H a := fun a n1 n2 => by rw [upd_ne n2, upd_ne n1]
    generalize upd (upd H d1 (.frz o1 (.dK k1))) x (.frz o2 u) = HL at l1 lx lo h3 ⊢
    refine q HL o1 o3 _ l1 h3 (fun a ys e => ?_) fun D zs H' hD sm eD p => ⟨sm _ _ lx, ?_, ?_⟩
    · rw [lo a (fun z => by rw [z, h1] at e; cases e) fun z => by rw [z, hx] at e; cases e; exact mu]
      exact e
    · rw [upd_ne fun z => xd z.symm]; exact sm _ _ l1
    · have nD1 : D ≠ d1 := fun z => by rw [z, l1] at hD; cases hD
      have nDx : D ≠ x := fun z => by rw [z, lx] at hD; cases hD
      refine k D zs _ (by rw [← lo D nD1 nDx]; exact hD) (fun b o e => ?_) (by rw [upd_ne nD1, upd_ne nDx]; exact eD) (Paired.mapP p fun y v h => ?_)
      · by_cases b1 : b = d1
        · rw [b1, upd_same, ← h1, ← e, b1]
        · rw [upd_ne b1]
          by_cases bx : b = x
          · rw [bx, upd_same, ← hx, ← e, bx]
          · rw [upd_ne bx]
            exact sm _ _ ((lo b b1 bx).trans e)
      · obtain ⟨a, rfl, h⟩ := h
        refine ⟨a, rfl, ?_⟩
        have n1 : a ≠ d1 := fun z => by
          rw [z, sm _ _ l1] at h
          cases h
        have n2 : a ≠ x := fun z => by
          rw [z, sm _ _ lx] at h
          cases h
        rw [upd_ne n1, upd_ne n2]
        exact h
  by_cases e : d2 = d1
  · subst e
    refine core j _ (fun z => by rw [z, h1] at hj; cases hj) hj trivial fun o1 o2 => ⟨o1, ?_⟩
    have n : d2 ≠ j := fun z => by
      rw [← z, h1] at hj
      cases hj
    rw [h1] at h2
    cases h2
    rw [upd_ne n]
    exact upd_same
  · exact core d2 _ e h2 trivial fun o1 o2 => ⟨o2, upd_same⟩
end D0
namespace D0
open PySem PySem.Spec PyProof.Rows L2
def noneHash : Int := reduceHash 0xFCA86420
def pairHash (c d : Nat) : Int := reduceHash (Builtin.Tuple.tupleHashOf [hashInt (c : Int), hashInt (d : Int)])
def apartAll (n : Nat) : Bool := (List.range n).all fun c => (List.range n).all fun d => decide (pairHash c d ≠ noneHash)
theorem apart_100 : apartAll 64 = true := by decide +kernel
theorem pair_apart {c d : Nat} (hc : c < 64) (hd : d < 64) : pairHash c d ≠ noneHash := by
  have h := apart_100
  unfold apartAll at h
  rw [List.all_eq_true] at h
  have h2 := h c (List.mem_range.mpr hc)
  rw [List.all_eq_true] at h2
  exact of_decide_eq_true (h2 d (List.mem_range.mpr hd))
def SmallK (k : List Key) : Prop := ∃ c d : Nat, c < 64 ∧ d < 64 ∧ k = [.inl (c : Int), .inl (d : Int)]
theorem small_hash {P : Program} {w : World} {k : List Key} (h : SmallK k) : (tupleKind (mixKind P w)).hash k ≠ noneHash := by
  obtain ⟨c, d, hc, hd, rfl⟩ := h
  exact pair_apart hc hd
section
variable {prog : Program} {w : World} {A : Around} {E : Value → Shared → Prop} {s : Shared} {a : Addr}
theorem no_place {es : Array DictEntry} (hn : ∀ e ∈ es, e.hash ≠ noneHash) : placesWithHash es.size (fun i => es[i]?.map (·.hash)) noneHash = [] := by
  unfold placesWithHash
  rw [List.filter_eq_nil_iff]
  intro i _ h
  have h : es[i]?.map (·.hash) = some noneHash := by simpa using h
  obtain ⟨e, he, h2⟩ := Option.map_eq_some_iff.mp h
  exact hn e (Array.mem_of_getElem? he) h2
theorem iteW {α : Type} {c : Prop} [Decidable c] {x y : Sem α} {Q : α → Shared → Prop} (h : ¬ c) (q : wpAny (model prog w) A y Q E s) : wpAny (model prog w) A (if c then x else y) Q E s := by
  rw [if_neg h]
  exact q
theorem get_noHash {ob : Obj} {es : Array DictEntry} {ep : Nat} {Q : Option Value → Shared → Prop} (hob : s.heap.get? a = some ob) (hda : ob.data = .dict es ep) (hn : ∀ e ∈ es, e.hash ≠ noneHash) (q : Q none { s with toks := s.toks + 1 }) :
    wpAny (model prog w) A (dictGet a .none) Q E s := by
  unfold dictGet
  first | with_reducible refine wpAny_holding ?_ | skip
  have find : wpAny (model prog w) A (dictFind a .none noneHash >>= fun r => match r with
      | some i => do return ((← dictEntries a (keyPart .none))[i]?).map (·.val)
      | none => return none) Q E { s with toks := s.toks + 1 } := by
    refine wpAny_bind ?_
    unfold dictFind
    first | with_reducible refine wpAny_holding ?_ | skip
    have read := @wpAny_dictEntries (model prog w) A E { s with toks := s.toks + 1 } a (keyPart .none) ob es ep
    refine wpAny_bind (read hob hda ?_)
    dsimp only
    rw [no_place hn, if_pos (show (Value.none :: List.filterMap (fun i => Option.map (fun x : DictEntry => x.key) es[i]?) []).all carriedByValue = true from rfl)]
    show wpAny _ _ (pure none) _ _ _
    exact wpAny_pure (wpAny_pure q)
  refine wpAny_bind (PySem.W.pyHash_slot (T := "NoneType") rfl PySem.F.slot_NoneType_hash PySem.F.entry_NoneType_hash (PySem.F.args_NoneType_hash_1 _) (beq_builtin_none _) (.inl rfl) ?_)
  exact wpAny_bind (wpAny_pure (wpAny_bind (wpAny_mkInt (wpAny_pure ⟨_, _, rfl, find⟩))))
theorem in_noHash {ob : Obj} {es : Array DictEntry} {ep : Nat} {Q : Value → Shared → Prop} (lo : (a == sysModules) = false) (hob : s.heap.get? a = some ob) (hx : ob.ExactDict) (hda : ob.data = .dict es ep) (hn : ∀ e ∈ es, e.hash ≠ noneHash) (q : Q (.bool false) { s with toks := s.toks + 1 }) :
    wpAny (model prog w) A (compareOp .In .none (.ref a)) Q E s := by
  have isD : s.TypeIs (.ref a) "dict" := ⟨ob, hob, hx.1⟩
  have slot : (some (Value.builtin "dict.__contains__") == some Value.none) ≠ true := by
    rw [beq_builtin_none]
    exact Bool.false_ne_true
  refine wpAny_bind (m := contains (.ref a) .none) ?_
  unfold contains
  first | with_reducible refine wpAny_holding ?_ | skip
  refine wpAny_bind (wpAny_specialOf isD slot_dict_contains.lookup ?_)
  refine iteW slot ?_
  refine wpAny_bind (wpAny_callSpecialUnlessNone?_slot (name := Str.ofString "__contains__") isD slot_dict_contains (wpAny_call_entry slot_dict_contains isD entry_dict_contains ?_ (args_dict_contains _ _)))
  refine wpAny_bind (m := dictGet a .none) (get_noHash hob hda hn ?_)
  refine wpAny_bind (m := Builtin.Dict.pendingKey? a .none) (wpAny_pendingKey_other lo ?_)
  exact wpAny_pure ⟨_, rfl, wpAny_truthy_bool (wpAny_pure q)⟩
end
section
variable {X : Cx} {pins : List (Addr × Obj)} {σ : L2.St} {H : Hp} {s : Shared} {a : Addr} {kvs : List (List Key × V)} {A : Around} {E : Value → Shared → Prop}
theorem d_inNoneT {Q : Value → Shared → Prop} (I : Inv X pins σ H s) (e : Rd H a (.dT kvs)) (sm : ∀ kv ∈ kvs, SmallK kv.1) (h : ∀ s', Inv X pins σ H s' → Q (.bool false) s') : wpAny (model X.prog X.w) A (compareOp .In .none (.ref a)) Q E s := by
  obtain ⟨_, lo, xs, rel, o, es, ep, ho, hx, hd, he, _, _⟩ := dt_rd I.hok e
  refine in_noHash lo ho hx hd (fun en hen => ?_) (h _ (I.tok _))
  have : en ∈ xs.map (entryOfKey (tupleKind (mixKind X.prog X.w))) := he ▸ Array.mem_toList_iff.mpr hen
  obtain ⟨x, hx2, rfl⟩ := List.mem_map.mp this
  obtain ⟨i, hi⟩ := List.mem_iff_getElem?.mp hx2
  obtain ⟨kv, ek, hq⟩ := Paired.get2 rel hi
  have := small_hash (P := X.prog) (w := X.w) (sm kv (List.mem_of_getElem? ek))
  rw [hq.1] at this
  exact this
end
def tDInT (ty td : TE) : TE := fun σ H Q => ty σ H fun y H1 => td σ H1 fun x H2 => (∃ a o, x = .ref a ∧ DGet H2 a y o ∧ Q (.bl o.isSome) H2) ∨ ∃ a kvs, x = .ref a ∧ y = .non ∧ Rd H2 a (.dT kvs) ∧ (∀ kv ∈ kvs, SmallK kv.1) ∧ Q (.bl false) H2
section
variable {X : Cx} {i o : Expr} {ty td : TE}
theorem pc_dinT (hu : X.A.units + 1 < cLine) (hy : PE X i ty) (hd : PE X o td) : PC X .In i o (tDInT ty td) := .mk fun pins s σ H Q inv want =>
  thn (hy.run pins s σ H _ inv want) fun kv s1 ⟨y, H1, inv1, ry, want1⟩ => thn (hd.run pins s1 σ H1 _ inv1 want1) fun dv s2 ⟨x, H2, inv2, rx, want2⟩ => by
    rcases want2 with ⟨a, found, ex, g, want2⟩ | ⟨a, kvs, ex, ey, g, sm, want2⟩
    · subst ex
      cases rx
      exact d_in hu inv2 g ry fun _ inv3 => ⟨.bl _, _, inv3, rfl, want2⟩
    · subst ex ey
      cases rx
      cases ry
      exact d_inNoneT inv2 g sm fun _ inv3 => ⟨.bl _, _, inv3, rfl, want2⟩
end
end D0
namespace D0
open PySem PySem.Spec PyProof.Rows L2
def TupZ (H : Hp) (a : Addr) (xs : List V) : Prop := ∃ o, H a = some (.frz o (.tup xs)) ∧ o.dict = none
def NewZ (H : Hp) (xs : List V) (Q : VK) : Prop := ∀ p o, H p = none → o.dict = none → Q (.ref p) (upd H p (.frz o (.tup xs)))
section
variable {X : Cx} {pins : List (Addr × Obj)} {σ : L2.St} {H : Hp} {s : Shared} {Q : VK}
theorem layZ {xs : List V} {its : List Value} (inv : Inv X pins σ H s) (rel : Vals xs its) (len : xs.length ≤ sizeLine) (q : NewZ H xs Q) :
    EP X pins σ Q (.ref s.heap.objs.size) { s with heap := s.heap.push { cls := .type "tuple", data := .seq its.toArray } } :=
  ⟨.ref _, _, inv.laid (t' := s.toks) (o := .frz _ (.tup xs)) (fun _ _ e => Heap.get?_push_of_some _ e) (Nat.le_refl _) ⟨Heap.get?_push_size _ rfl, len, its, rel, IsTup.new _ _⟩, rfl, q _ _ (inv.hok.fresh (Nat.le_refl _)) rfl⟩
end
def tTupZ (t : TA) : TE := fun σ H Q => t σ H fun xs H1 => xs.length ≤ sizeLine ∧ NewZ H1 xs Q
theorem pe_tupZ {X : Cx} {es : List Expr} {t : TA} {pos : Pos} {c} (h : PA X es t) : PE X (.Tuple es c pos) (tTupZ t) := .mk fun pins s σ H Q inv want =>
  wpAny_Tuple_spliced (thn (h.run pos pins s σ H _ inv want) fun us s1 ⟨xs, H1, inv1, rel, len, want1⟩ => ⟨by rw [← rel.length]; exact len, layZ inv1 rel len want1⟩)
def rTupleZ (K : PySem.W.Frag) : List V → Hp → VK → Prop := fun xs H Q => ∃ p ys, xs = [.ref p] ∧ ((SqL K H p ys ∧ NewZ H ys Q) ∨ (SqT K H p ys ∧ Q (.ref p) H))
theorem call_tupleZ {X : Cx} : CallR X (.type "tuple") (rTupleZ X.K) := by
  intro pins s σ H xs us Q inv rel want
  obtain ⟨p, ys, rfl, want⟩ := want
  obtain rfl := Vals.ref1 rel
  rcases want with ⟨sq, want⟩ | ⟨sq, want⟩
  · obtain ⟨its, r', pl, len⟩ := inv.list sq
    have ln := r'.length
    refine call_tuple_list pl.isList (fun h' kp => ?_) (by simp only [List.size_toArray] <;> omega)
    exact layZ (s := { s with heap := h' }) (inv.kept (t' := s.toks) kp) r' len want
  · obtain ⟨its, r', pl, len⟩ := inv.tuple sq
    exact call_tuple_same pl ⟨.ref p, H, inv, rfl, want⟩
theorem dTupleZ {X : Cx} (K : PySem.W.Frag) (hK : X.K = K := by rfl) : CallR X (.type "tuple") (rTupleZ K) := by subst hK; exact call_tupleZ
def rSlZ (K : PySem.W.Frag) : V → Option Int → Option Int → Hp → VK → Prop := fun x lo hi H Q => ∃ a xs, x = .ref a ∧ SqT K H a xs ∧
  (HT.sIx xs.length 0 lo = 0 ∧ HT.sIx xs.length xs.length hi = xs.length → Q (.ref a) H) ∧ (¬ (HT.sIx xs.length 0 lo = 0 ∧ HT.sIx xs.length xs.length hi = xs.length) → NewZ H (cutV xs lo hi) Q)
theorem sl_tupZ {X : Cx} : SlR X (rSlZ X.K) := by
  intro pins s σ H x v vl vu lo hi sl Q inv rx hs pl pu want
  obtain ⟨a, xs, rfl, hx, q1, q2⟩ := want
  by_cases whole : HT.sIx xs.length 0 lo = 0 ∧ HT.sIx xs.length xs.length hi = xs.length
  · exact sl_tupA pins s σ H _ v vl vu lo hi sl Q inv rx hs pl pu ⟨a, xs, rfl, hx, q1, fun n => absurd whole n⟩
  · cases rx
    obtain ⟨its, rel, ht, len⟩ := inv.tuple hx
    have sz : its.toArray.size = xs.length := by rw [List.size_toArray, rel.length]
    have want := q2 whole
    refine ⟨"tuple", _, PyProof.Rows.slot_tuple_getitem.lookup, ht.typeIs, HT.getItem_tuple_cut ht hs pl pu (by rw [sz]; exact whole) ?_ (by rw [sz]; exact len)⟩
    rw [sz]
    exact layZ inv ((rel.drop (HT.sIx xs.length 0 lo)).take (HT.sIx xs.length xs.length hi - HT.sIx xs.length 0 lo)) (Nat.le_trans (cutV_length xs lo hi) len) want
def rSlVZ (K : PySem.W.Frag) : V → Option Int → Option Int → Hp → VK → Prop := fun x lo hi H Q => rSlD K x lo hi H Q ∨ rSlZ K x lo hi H Q
theorem dSlVZ {X : Cx} (K : PySem.W.Frag) (hK : X.K = K := by rfl) : SlR X (rSlVZ K) := SlRor (dSl K hK) (by subst hK; exact sl_tupZ)
def rAddVZ (_ : PySem.W.Frag) : R2 := fun x y H Q => rI0 (fun i j => .int (i + j)) x y H Q ∨ (∃ i j, x = .str i ∧ y = .str j ∧ i.length + j.length ≤ sizeLine ∧ Q (.str (i ++ j)) H) ∨ rCat x y H Q
theorem dAddVZ {X : Cx} (K : PySem.W.Frag) : OpR X (binaryOp .Add) (rAddVZ K) := op_add.or (op_add_str.or op_cat)
/-- the tuple at a, each item in a new pair -/
def ItetZ (K : PySem.W.Frag) (a : Addr) : It :=
  ⟨fun i H => ∃ (xs : List V) (x : V), SqT K H a xs ∧ xs[i]? = some x, fun i H v H' => ∃ T o x, v = .ref T ∧ H T = none ∧ o.dict = none ∧ H' = upd H T (.frz o (.tup [.int (i : Nat), x])) ∧ ∀ xs, SqT K H a xs → xs[i]? = some x, fun i H => ∃ xs : List V, SqT K H a xs ∧ xs.length ≤ i⟩
theorem turn_enumZ {P : Program} {w : World} {K : PySem.W.Frag} {elts : List Expr} {kk : Nat} {tpos : Pos} (a e zi : Addr) :
    Turn P w K (.Tuple elts kk tpos) (ItetZ K a) [e, zi] e (fun i h => (∃ old, IsEnum h e zi ((i : Nat) : Int) old) ∧ h.IsTupleIter zi a i ∧ e ≠ zi) where
  mem := by simp
  obj := fun i h st b hb => by
    obtain ⟨⟨old, en⟩, ⟨o, ho, hc, hd⟩, _⟩ := st
    rcases (show b = e ∨ b = zi by simpa using hb) with y | y
    · rw [y]; exact ⟨_, en, fun v q => nomatch q⟩
    · rw [y]; exact ⟨o, ho, fun v q => by rw [hd] at q; cases q⟩
  keep := fun i h h' st k => let ⟨⟨old, en⟩, hi, hn⟩ := st; ⟨⟨old, k e (by simp) _ en⟩, hi.at fun o q => k zi (by simp) o q, hn⟩
  item := by
    intro X hP hw hK hc i pins s σ H E I hf st hg
    subst hP hw hK
    obtain ⟨⟨old, en⟩, ti, hn⟩ := st
    obtain ⟨xs, x, hq, hx⟩ := hg
    obtain ⟨its, rv, p, hz⟩ := I.tuple hq
    have tt : s.heap.IsTuple a its.toArray := p
    obtain ⟨u, hu, ru⟩ := rv.get hx
    have hza : zi ≠ a := by
      rintro rfl
      obtain ⟨o, ho, c1, _⟩ := ti
      obtain ⟨o', ho', c2, _⟩ := tt
      rw [ho] at ho'; cases ho'
      rw [c1] at c2
      exact absurd c2 (by decide)
    have hea : e ≠ a := by
      rintro rfl
      obtain ⟨o', ho', c2, _⟩ := tt
      rw [en] at ho'; cases ho'
      exact absurd (show Value.type "enumerate" = Value.type "tuple" from c2) (by decide)
    have lt : i < its.toArray.size := by
      have := (List.getElem?_eq_some_iff.mp hu).1
      simpa using this
    have hel : e < s.heap.objs.size := Heap.lt_size en
    have hil : zi < s.heap.objs.size := by obtain ⟨_, q, _⟩ := ti; exact Heap.lt_size q
    refine wpAny_pyNext_enum_itemD (ET.drawsT (I.ok.hd hc) zi a its.toArray hza) en ⟨ti, tt⟩ lt hn (by simp [hn, hea]) fun y h' tk hy ho st' hT hsz hk => ?_
    have ey : y = u := by
      have h1 : its[i]? = some y := by simpa using hy
      rw [hu] at h1; exact (Option.some.inj h1).symm
    subst ey
    refine ⟨_, rfl, wpAny_letOwnedTupleGo_enum (s := { s with heap := h', toks := tk + 1 }) ho fun h2 en2 sb => ?_⟩
    have hT2 : h2.get? s.heap.objs.size = some { cls := .type "tuple", data := .seq #[.int i tk, y] } := (sb.2 _ (Nat.ne_of_gt hel)).trans hT
    have new : ObjOk X.prog X.w (upd H s.heap.objs.size (.frz { cls := .type "tuple", data := .seq #[.int i tk, y] } (.tup [.int (i : Nat), x]))) h2 s.heap.objs.size (.frz { cls := .type "tuple", data := .seq #[.int i tk, y] } (.tup [.int (i : Nat), x])) := ⟨hT2, by show 2 ≤ sizeLine; decide, [.int i tk, y], .cons ⟨_, rfl⟩ (.cons ru .nil), ⟨_, hT2, rfl, _, rfl⟩⟩
    have I1 : Inv X pins σ (upd H s.heap.objs.size (.frz { cls := .type "tuple", data := .seq #[.int i tk, y] } (.tup [.int (i : Nat), x]))) { s with heap := h2, toks := tk + 1 } :=
      I.turnedNew (ch := [e, zi]) (fun b ob hb q => (sb.2 b (fun y => hb (by simp [y]))).trans (hk b ob (fun y => hb (by simp [y])) (fun y => hb (by simp [y])) q)) hf (Nat.le_refl _) new
    refine ⟨.ref s.heap.objs.size, _, I1, rfl, ⟨_, _, x, rfl, I.hok.fresh (Nat.le_refl _), rfl, rfl, fun ys hy => by rw [I.tuple_inj hy hq]; exact hx⟩, ⟨⟨y, ?_⟩, st'.1.at fun o q => (sb.2 zi (Ne.symm hn)).trans q, hn⟩, fun b hb => ?_⟩
    · rw [show ((i + 1 : Nat) : Int) = (i : Int) + 1 by omega]; exact en2
    · have lb : b < s.heap.objs.size := by
        rcases (show b = e ∨ b = zi by simpa using hb) with y | y
        · rw [y]; exact hel
        · rw [y]; exact hil
      rw [upd_ne (Nat.ne_of_lt lb)]
      exact (hf b hb).1
  done := by
    intro X hP hw hK hc i pins s σ H E I hf st hg
    subst hP hw hK
    obtain ⟨⟨old, en⟩, ti, hn⟩ := st
    obtain ⟨xs, hq, hx⟩ := hg
    obtain ⟨its, rv, p, hz⟩ := I.tuple hq
    have tt : s.heap.IsTuple a its.toArray := p
    obtain ⟨f0, f1, f2, f3, f4, f5⟩ := hf zi (by simp)
    have hl := rv.length
    have hT : s.TypeIs (.ref e) "enumerate" := ⟨_, en, rfl⟩
    unfold pyNext
    refine wpAny_bind (wpAny_attempt (wpAny_callSpecial?_slot (name := Str.ofString "__next__") hT F.slot_enumerate_next (wpAny_call_entry F.slot_enumerate_next hT F.entry_enumerate_next ?_ (F.args_enumerate_next_1 _))))
    show wpAny _ _ (field (.ref e) 2 >>= fun _ => _) _ _ _
    refine wpAny_bind (wpAny_field en rfl (x := .ref zi) rfl ?_)
    refine wpAny_bind (ET.nextTE (A := X.A.in1) (I.ok.hd hc) ti tt (by simp; omega) fun h' x eb hx' => ?_)
    obtain ⟨o, ho, hco⟩ := hx'
    refine wpAny_bind (wpAny_isInstance (T := "StopIteration") (b := true) ⟨o, ho, hco⟩ isSubtype_stop ?_)
    exact wpAny_pure ⟨rfl, I.turned (t' := s.toks) (fun b o hb q => eb b o hb q) f0 f1 f3 f4 f5⟩
  self := fun A i s Q E st h => let ⟨⟨_, en⟩, _⟩ := st; wpAny_pyIter_enum en h
def iEnumZ (K : PySem.W.Frag) (ta : TA) : TI := fun σ H R => ta σ H fun vs H1 => ∃ a xs, vs = [.ref a] ∧ SqT K H1 a xs ∧ R (ItetZ K a) H1
theorem dpi_enumZ {X : Cx} (K : PySem.W.Frag) {e : Expr} {ta : TA} {p pos tpos : Pos} {elts : List Expr} {kk : Nat} (hg : Gl X "enumerate") (hm : X.mg "enumerate" = none) (ha : PA X [e] ta) (hK : X.K = K := by rfl) (hs : starEach [e] X.env = [(false, eval e X.env)] := by rfl) :
    PI X (.Tuple elts kk tpos) (.Call (.Name "enumerate" p) [e] [] pos) (iEnumZ K ta) := by
  subst hK
  refine ⟨fun pins s σ H R I h => ?_⟩
  refine Call_ (ld_blt I hg hm boot_enumerate (PyProof.Rows.callWith_type1 (thn (ha.run pos pins s σ H _ I h) fun us s1 ⟨vs, H1, I1, r1, q1⟩ => ?_) hs rfl))
  obtain ⟨a, xs, ex, hq, q⟩ := q1
  subst ex
  cases r1 with
  | cons r rr =>
    cases rr
    cases r
    obtain ⟨its, rv, p', hz⟩ := I1.tuple hq
    refine ET.callE (show s1.heap.IsTuple a its.toArray from p') fun h' en hit hsz hk => wpAny_pyIter_enum en ?_
    have I2 : Inv X pins σ H1 { s1 with heap := h' } := I1.kept (t' := s1.toks) hk
    refine ⟨s1.heap.objs.size + 1, [s1.heap.objs.size + 1, s1.heap.objs.size], _, _, H1, rfl, I2, turn_enumZ a (s1.heap.objs.size + 1) s1.heap.objs.size, ⟨⟨.none, en⟩, hit, Nat.succ_ne_self _⟩, fun b hb => ?_, q⟩
    have lb : s1.heap.objs.size ≤ b := by
      rcases (show b = s1.heap.objs.size + 1 ∨ b = s1.heap.objs.size by simpa using hb) with y | y
      · rw [y]; exact Nat.le_add_right _ _
      · rw [y]; exact Nat.le_refl _
    exact I1.fpOk lb (I1.hok.fresh lb)

def YPairZ (xs ys : Nat → Option V) : Nat → Hp → V → Hp → Prop := fun i H v H' => ∃ T o x y, v = .ref T ∧ H T = none ∧ o.dict = none ∧ H' = upd H T (.frz o (.tup [x, y])) ∧ xs i = some x ∧ ys i = some y
theorem walk_enumZ {K : PySem.W.Frag} {a : Addr} {xs : List V} : Walk (ItetZ K a) xs.length (fun H => SqT K H a xs) (YPairZ (fun i => some (.int (i : Nat))) (fun i => xs[i]?)) := by
  refine ⟨fun i _ hi q => ⟨xs, xs[i], q, by simp [hi]⟩, fun _ q => ⟨xs, q, Nat.le_refl _⟩, fun i H v H' _ q y => ?_⟩
  obtain ⟨T, o, x, h1, h2, h0, h3, h4⟩ := y
  exact ⟨T, o, .int (i : Nat), x, h1, h2, h0, h3, rfl, h4 xs q⟩
section
variable {X : Cx} {o e : Expr} {to : TE} {t : TA} {name : Str} {apos cpos : Pos} {id : String} {r : V → List V → Hp → VK → Prop}
def tTM (r : V → List V → Hp → VK → Prop) (to : TE) (t : TA) : TE := fun σ H Q => to σ H fun x H1 => (∃ a xs, x = .ref a ∧ TupZ H1 a xs) ∧ t σ H1 fun xs H2 => r x xs H2 Q
theorem pe_tm (pa : PlainAttrs "tuple") (slot : Slot "tuple" name id) (hty : typeOf (.builtin id) = pure (.type "method_descriptor")) (hm : MtR X id r) (ho : PE X o to) (ha : PA X [e] t)
    (hbase : attributeBase o name X.env (eval o X.env) = eval o X.env := by rfl)
    (hfew : ((backTo cpos (starEach [e] X.env)).all (fun x => !x.1) && (backToKw cpos (keywordEach [] X.env)).all (fun x => x.1.isSome) && decide (([e] : List Expr).length + ([] : List Keyword).length + (if ([] : List Keyword).isEmpty then 0 else 1) < 30)) = true := by rfl)
    (hline : (apos.endLine == cpos.line) = true := by rfl) (hs : starEach [e] X.env = (false, eval e X.env) :: starEach [] X.env := by rfl) (hplain : (backTo cpos (starEach [] X.env)).any (·.1) = false := by rfl) :
    PE X (.Call (.Attribute o name apos) [e] [] cpos) (tTM r to t) := .mk fun pins s σ H Q inv want => by
  refine wpAny_Call_method_late hbase hfew hline rfl (thn (ho.run pins s σ H _ inv want) fun v s1 ⟨x, H1, inv1, r1, ⟨a, xs, ex, ob, eo, nd⟩, want1⟩ => ?_)
  subst ex
  cases r1
  obtain ⟨g, _, its, _, ob2, g2, c2, _⟩ := inv1.hok a _ eo
  have cl : ob.cls = .type "tuple" := by
    rw [g] at g2
    cases g2
    exact c2
  refine ⟨"tuple", id, pa, slot, hty, ⟨ob, g, cl⟩, fun b eb => ?_, ?_⟩
  · cases eb
    exact ⟨ob, g, nd⟩
  have hA := ha.run cpos pins s1 σ H1 _ inv1 want1
  rw [hs] at hA ⊢
  refine Calls.callWith_builtin (by show (false || (backTo cpos (starEach [] X.env)).any (·.1)) = false; rw [hplain] <;> rfl) (Calls.evalArgs_plain ?_)
  exact thn hA fun us s2 ⟨vs, H2, inv2, r2, want2⟩ => hm pins s2 σ H2 (.ref a) vs _ us Q inv2 rfl r2 want2
end
def rTCount (K : PySem.W.Frag) : V → List V → Hp → VK → Prop := fun x xs H Q => ∃ a ys y d ds, x = .ref a ∧ xs = [y] ∧ SqT K H a ys ∧ Dp K H y d ∧ DpAll K H ys ds ∧ SeqAt.shaped d = true ∧ SeqAt.shaped (.tuple ds) = true ∧ Q (.int ((ds.countP fun z => PyData.eqv z d : Nat) : Int)) H
theorem mt_tcount {X : Cx} (hu : X.A.units + 65 < cLine) : MtR X "tuple.count" (rTCount X.K) := by
  intro pins s σ H x xs v us Q inv rx rel want
  obtain ⟨a, ys, y, d, ds, rfl, rfl, sq, hd, hds, sd, sds, want⟩ := want
  cases rx
  obtain ⟨its, r', pl, len⟩ := inv.tuple sq
  obtain ⟨u, rfl, ru⟩ : ∃ u, us = [u] ∧ RelV y u := by
    cases rel with
    | cons h t => cases t; exact ⟨_, rfl, h⟩
  obtain ⟨as, rs⟩ := Dp.readsAll inv ds ys its hds r'
  obtain ⟨bs, rx⟩ := Dp.reads inv d y u hd ru
  have dl : d.depth ≤ 64 := by
    unfold SeqAt.shaped at sd
    rw [Bool.and_eq_true, decide_eq_true_eq] at sd
    exact sd.2
  exact SeqAt.count_tuple_data (vs := its.toArray) pl rs rx (PyData.plainAll_of_canLay0 _ (SeqAt.canLay_of_shaped sds)) (PyData.plain_of_canLay0 _ (SeqAt.canLay_of_shaped sd)) (by omega) ⟨.int _, H, inv.tok _, ⟨_, rfl⟩, want⟩
theorem dTCount {X : Cx} (K : PySem.W.Frag) (hu : X.A.units + 65 < cLine) (hK : X.K = K := by rfl) : MtR X "tuple.count" (rTCount K) := by subst hK; exact mt_tcount hu
end D0
namespace EV
open PySem PySem.Spec PyProof.Rows L2 D0
def keyD : Key → PyData
  | .inl i => .int i
  | .inr s => .str s
def keyT (ks : List Key) : PyData := .tuple (ks.map keyD)
/-- a tuple of the module: two texts or more -/
def KTup (K : PySem.W.Frag) (a : Addr) (xs : List V) : Prop := ∃ (o : Obj) (its : Array Value) (n : Nat), K.lookup a = some o ∧ o.cls = .type "tuple" ∧ o.data = .seq its n ∧ its.size ≤ sizeLine ∧ Vals xs its.toList
def isStrD : PyData → Bool
  | .str _ => true
  | _ => false
def constS (ds : List PyData) : Bool := decide (2 ≤ ds.length) && ds.all isStrD
def TupR (K : PySem.W.Frag) (H : Hp) (a : Addr) (xs : List V) (ds : List PyData) : Prop := TupZ H a xs ∨ (KTup K a xs ∧ constS ds = true)
theorem TupR.sqt {K : PySem.W.Frag} {H : Hp} {a : Addr} {xs : List V} {ds : List PyData} (h : TupR K H a xs ds) : SqT K H a xs := h.elim (fun ⟨o, e, _⟩ => .inl (.inr ⟨o, e⟩)) fun z => .inr z.1
theorem TupR.go {K : PySem.W.Frag} {H H' : Hp} {a : Addr} {xs : List V} {ds : List PyData} (ht : ∀ a xs, TupZ H a xs → TupZ H' a xs) (h : TupR K H a xs ds) : TupR K H' a xs ds := h.imp (ht _ _) id
mutual
/-- v stands for d; its lists and dicts are none of those that may change (N) -/
inductive Rep (K : PySem.W.Frag) (N : Addr → Prop) (H : Hp) : V → PyData → Prop
  | non : Rep K N H .non .none
  | bl (b : Bool) : Rep K N H (.bl b) (.bool b)
  | int (i : Int) : Rep K N H (.int i) (.int i)
  | str (x : Str) : Rep K N H (.str x) (.str x)
  | lst {a : Addr} {xs : List V} {ds : List PyData} : ¬ N a → H a = some (.lst xs) → RepA K N H xs ds → Rep K N H (.ref a) (.list ds)
  | tup {a : Addr} {xs : List V} {ds : List PyData} : TupR K H a xs ds → RepA K N H xs ds → Rep K N H (.ref a) (.tuple ds)
  | dk {a : Addr} {kvs : List (Key × V)} {es : List (PyData × PyData)} : ¬ N a → H a = some (.dK kvs) → RepK K N H kvs es → Rep K N H (.ref a) (.dict es)
  | dt {a : Addr} {kvs : List (List Key × V)} {es : List (PyData × PyData)} : ¬ N a → H a = some (.dT kvs) → RepT K N H kvs es → Rep K N H (.ref a) (.dict es)
inductive RepA (K : PySem.W.Frag) (N : Addr → Prop) (H : Hp) : List V → List PyData → Prop
  | nil : RepA K N H [] []
  | cons {v : V} {vs : List V} {d : PyData} {ds : List PyData} : Rep K N H v d → RepA K N H vs ds → RepA K N H (v :: vs) (d :: ds)
inductive RepK (K : PySem.W.Frag) (N : Addr → Prop) (H : Hp) : List (Key × V) → List (PyData × PyData) → Prop
  | nil : RepK K N H [] []
  | cons {k : Key} {v : V} {vs : List (Key × V)} {d : PyData} {ds : List (PyData × PyData)} : Rep K N H v d → RepK K N H vs ds → RepK K N H ((k, v) :: vs) ((keyD k, d) :: ds)
inductive RepT (K : PySem.W.Frag) (N : Addr → Prop) (H : Hp) : List (List Key × V) → List (PyData × PyData) → Prop
  | nil : RepT K N H [] [(PyData.none, PyData.none)]
  | cons {k : List Key} {v : V} {vs : List (List Key × V)} {d : PyData} {ds : List (PyData × PyData)} : Rep K N H v d → RepT K N H vs ds → RepT K N H ((k, v) :: vs) ((keyT k, d) :: ds)
end
section
variable {K : PySem.W.Frag} {N N' : Addr → Prop} {H H' : Hp}
mutual
theorem Rep.go (ht : ∀ a xs, TupZ H a xs → TupZ H' a xs) (hl : ∀ a o, H a = some o → ¬ N a → H' a = some o ∧ ¬ N' a) : ∀ (d : PyData) (v : V), Rep K N H v d → Rep K N' H' v d
  | .none, _, h => by cases h; exact .non
  | .bool b, _, h => by cases h; exact .bl b
  | .int i, _, h => by cases h; exact .int i
  | .str x, _, h => by cases h; exact .str x
  | .list ds, _, h => by
    cases h with
    | lst n e r => exact .lst (hl _ _ e n).2 (hl _ _ e n).1 (RepA.go ht hl ds _ r)
  | .tuple ds, _, h => by
    cases h with
    | tup e r => exact .tup (e.go ht) (RepA.go ht hl ds _ r)
  | .dict es, _, h => by
    cases h with
    | dk n e r => exact .dk (hl _ _ e n).2 (hl _ _ e n).1 (RepK.go ht hl es _ r)
    | dt n e r => exact .dt (hl _ _ e n).2 (hl _ _ e n).1 (RepT.go ht hl es _ r)
theorem RepA.go (ht : ∀ a xs, TupZ H a xs → TupZ H' a xs) (hl : ∀ a o, H a = some o → ¬ N a → H' a = some o ∧ ¬ N' a) : ∀ (ds : List PyData) (vs : List V), RepA K N H vs ds → RepA K N' H' vs ds
  | [], _, h => by cases h; exact .nil
  | d :: ds, _, h => by
    cases h with
    | cons a b => exact .cons (Rep.go ht hl d _ a) (RepA.go ht hl ds _ b)
theorem RepK.go (ht : ∀ a xs, TupZ H a xs → TupZ H' a xs) (hl : ∀ a o, H a = some o → ¬ N a → H' a = some o ∧ ¬ N' a) : ∀ (ds : List (PyData × PyData)) (vs : List (Key × V)), RepK K N H vs ds → RepK K N' H' vs ds
  | [], _, h => by cases h; exact .nil
  | (_, d) :: ds, _, h => by
    cases h with
    | cons a b => exact .cons (Rep.go ht hl d _ a) (RepK.go ht hl ds _ b)
theorem RepT.go (ht : ∀ a xs, TupZ H a xs → TupZ H' a xs) (hl : ∀ a o, H a = some o → ¬ N a → H' a = some o ∧ ¬ N' a) : ∀ (ds : List (PyData × PyData)) (vs : List (List Key × V)), RepT K N H vs ds → RepT K N' H' vs ds
  | [], _, h => by cases h
  | (_, d) :: ds, _, h => by
    cases h with
    | nil => exact .nil
    | cons a b => exact .cons (Rep.go ht hl d _ a) (RepT.go ht hl ds _ b)
end
mutual
theorem Rep.dp : ∀ (d : PyData) (v : V), d.canLay0 = true → Rep K N H v d → Dp K H v d
  | .none, _, _, h => by cases h; exact .non
  | .bool b, _, _, h => by cases h; exact .bl b
  | .int i, _, _, h => by cases h; exact .int i
  | .str x, _, _, h => by cases h; exact .str x
  | .list ds, _, c, h => by
    cases h with
    | lst n e r => exact .lst (SqL.of e) (RepA.dp ds _ (by simpa [PyData.canLay0] using c) r)
  | .tuple ds, _, c, h => by
    cases h with
    | tup e r => exact .tup e.sqt (RepA.dp ds _ (by simpa [PyData.canLay0] using c) r)
  | .dict es, _, c, h => by simp [PyData.canLay0] at c
theorem RepA.dp : ∀ (ds : List PyData) (vs : List V), PyData.canLayAll0 ds = true → RepA K N H vs ds → DpAll K H vs ds
  | [], _, _, h => by cases h; exact .nil
  | d :: ds, _, c, h => by
    cases h with
    | cons a b =>
      have c' : PyData.canLay0 d = true ∧ PyData.canLayAll0 ds = true := by simpa [PyData.canLayAll0] using c
      exact .cons (Rep.dp d _ c'.1 a) (RepA.dp ds _ c'.2 b)
end
theorem RepA.len : ∀ {vs : List V} {ds : List PyData}, RepA K N H vs ds → vs.length = ds.length
  | _, _, .nil => rfl
  | _, _, .cons _ t => by rw [List.length_cons, List.length_cons, RepA.len t]
theorem RepA.get : ∀ {vs : List V} {ds : List PyData} {i : Nat} {d : PyData}, RepA K N H vs ds → ds[i]? = some d → ∃ v, vs[i]? = some v ∧ Rep K N H v d
  | _, _, _, _, .nil, h => by simp at h
  | _, _, 0, _, .cons r _, h => by simp at h; subst h; exact ⟨_, rfl, r⟩
  | _, _, i + 1, _, .cons _ t, h => by
    obtain ⟨v, e, r⟩ := RepA.get (i := i) t (by simpa using h)
    exact ⟨v, by simpa using e, r⟩
theorem RepA.app : ∀ {vs ws : List V} {ds es : List PyData}, RepA K N H vs ds → RepA K N H ws es → RepA K N H (vs ++ ws) (ds ++ es)
  | _, _, _, _, .nil, h => h
  | _, _, _, _, .cons r t, h => .cons r (RepA.app t h)
theorem RepA.set : ∀ {vs : List V} {ds : List PyData} (i : Nat) {v : V} {d : PyData}, RepA K N H vs ds → Rep K N H v d → RepA K N H (vs.set i v) (ds.set i d)
  | _, _, _, _, _, .nil, _ => .nil
  | _, _, 0, _, _, .cons _ t, h => .cons h t
  | _, _, i + 1, _, _, .cons r t, h => .cons r (RepA.set i t h)
theorem RepA.take : ∀ {vs : List V} {ds : List PyData} (n : Nat), RepA K N H vs ds → RepA K N H (vs.take n) (ds.take n)
  | _, _, 0, _ => .nil
  | _, _, _ + 1, .nil => .nil
  | _, _, n + 1, .cons r t => .cons r (RepA.take n t)
theorem RepA.drop : ∀ {vs : List V} {ds : List PyData} (n : Nat), RepA K N H vs ds → RepA K N H (vs.drop n) (ds.drop n)
  | _, _, 0, h => h
  | _, _, _ + 1, .nil => .nil
  | _, _, n + 1, .cons _ t => RepA.drop n t
theorem RepA.rev {vs : List V} {ds : List PyData} (h : RepA K N H vs ds) : RepA K N H vs.reverse ds.reverse := by
  induction vs generalizing ds with
  | nil => cases h; exact .nil
  | cons v vs ih => cases h with
    | cons r t => rw [List.reverse_cons, List.reverse_cons]; exact RepA.app (ih t) (.cons r .nil)
theorem RepA.ints : ∀ {vs : List V} {ns : List Int}, RepA K N H vs (ns.map PyData.int) → vs = ns.map V.int
  | _, [], h => by cases h; rfl
  | _, n :: ns, h => by
    cases h with
    | cons a b => cases a; rw [RepA.ints b]; rfl
theorem RepA.of_ints : ∀ (ns : List Int), RepA K N H (ns.map V.int) (ns.map PyData.int)
  | [] => .nil
  | n :: ns => .cons (.int n) (RepA.of_ints ns)
theorem RepA.bools : ∀ {vs : List V} {ns : List Bool}, RepA K N H vs (ns.map PyData.bool) → vs = ns.map V.bl
  | _, [], h => by cases h; rfl
  | _, n :: ns, h => by
    cases h with
    | cons a b => cases a; rw [RepA.bools b]; rfl
theorem RepA.strs : ∀ {vs : List V} {ns : List Str}, RepA K N H vs (ns.map PyData.str) → vs = ns.map V.str
  | _, [], h => by cases h; rfl
  | _, n :: ns, h => by
    cases h with
    | cons a b => cases a; rw [RepA.strs b]; rfl
theorem RepA.of_strs : ∀ (ns : List Str), RepA K N H (ns.map V.str) (ns.map PyData.str)
  | [] => .nil
  | n :: ns => .cons (.str n) (RepA.of_strs ns)
/-- the tuples of H stand in H' -/
theorem sqt_of {a : Addr} {xs : List V} (h : ∀ a o, H a = some o → ¬ Mut (some o) → H' a = some o) (e : TupZ H a xs) : TupZ H' a xs := by obtain ⟨o, e, d⟩ := e; exact ⟨o, h _ _ e fun z => z, d⟩
theorem sqt_same {a : Addr} {xs : List V} (h : Same H H') (e : TupZ H a xs) : TupZ H' a xs := by obtain ⟨o, e, d⟩ := e; exact ⟨o, h _ _ e, d⟩
theorem sqT_of {a : Addr} {xs : List V} (h : ∀ a o, H a = some o → ¬ Mut (some o) → H' a = some o) (e : SqT K H a xs) : SqT K H' a xs := by
  rcases e with (e | ⟨o, e⟩) | e
  · exact .inl (.inl (h _ _ e fun z => z))
  · exact .inl (.inr ⟨o, h _ _ e fun z => z⟩)
  · exact .inr e
end
def Loose (K : PySem.W.Frag) (N : Addr → Prop) (H : Hp) (v : V) : PyData → Prop
  | .list ds => ∃ a xs, v = .ref a ∧ H a = some (.lst xs) ∧ RepA K N H xs ds
  | .dict es => ∃ a, v = .ref a ∧ ((∃ kvs, H a = some (.dK kvs) ∧ RepK K N H kvs es) ∨ ∃ kvs, H a = some (.dT kvs) ∧ RepT K N H kvs es)
  | d => Rep K N H v d
def isMu : PyData → Bool
  | .list _ => true
  | .dict _ => true
  | _ => false
/-- the object at a holds what d says, and d is a list or a dict -/
def Own (K : PySem.W.Frag) (N : Addr → Prop) (H : Hp) (d : PyData) (a : Addr) : Prop := isMu d = true ∧ Loose K N H (.ref a) d
section
variable {K : PySem.W.Frag} {N N' : Addr → Prop} {H H' : Hp} {v : V} {d : PyData} {a : Addr}
theorem Rep.loose (h : Rep K N H v d) : Loose K N H v d := by
  cases h with
  | non => exact Rep.non
  | bl b => exact Rep.bl b
  | int i => exact Rep.int i
  | str i => exact Rep.str i
  | lst n e r => exact ⟨_, _, rfl, e, r⟩
  | tup e r => exact Rep.tup e r
  | dk n e r => exact ⟨_, rfl, .inl ⟨_, e, r⟩⟩
  | dt n e r => exact ⟨_, rfl, .inr ⟨_, e, r⟩⟩
theorem Loose.rep (h : Loose K N H v d) (n : ∀ a, v = .ref a → isMu d = true → ¬ N a) : Rep K N H v d := by
  cases d with
  | list ds => obtain ⟨a, xs, rfl, e, r⟩ := h; exact .lst (n a rfl rfl) e r
  | dict es =>
    obtain ⟨a, rfl, ⟨kvs, e, r⟩ | ⟨kvs, e, r⟩⟩ := h
    · exact .dk (n a rfl rfl) e r
    · exact .dt (n a rfl rfl) e r
  | none => exact h
  | bool _ => exact h
  | int _ => exact h
  | str _ => exact h
  | tuple _ => exact h
theorem Own.rep (h : Own K N H d a) (n : ¬ N a) : Rep K N H (.ref a) d := h.2.rep fun b e _ => by cases e; exact n
theorem Loose.dp (h : Loose K N H v d) (c : d.canLay0 = true) : Dp K H v d := by
  cases d with
  | list ds => obtain ⟨a, xs, rfl, e, r⟩ := h; exact .lst (SqL.of e) (RepA.dp ds _ (by simpa [PyData.canLay0] using c) r)
  | dict es => simp [PyData.canLay0] at c
  | none => exact Rep.dp _ _ c h
  | bool _ => exact Rep.dp _ _ c h
  | int _ => exact Rep.dp _ _ c h
  | str _ => exact Rep.dp _ _ c h
  | tuple _ => exact Rep.dp _ _ c h
theorem Loose.go (ht : ∀ a xs, TupZ H a xs → TupZ H' a xs) (hl : ∀ a o, H a = some o → ¬ N a → H' a = some o ∧ ¬ N' a) (hv : ∀ a o, v = .ref a → isMu d = true → H a = some o → H' a = some o) (h : Loose K N H v d) : Loose K N' H' v d := by
  cases d with
  | list ds => obtain ⟨a, xs, rfl, e, r⟩ := h; exact ⟨a, xs, rfl, hv a _ rfl rfl e, RepA.go ht hl _ _ r⟩
  | dict es =>
    obtain ⟨a, rfl, ⟨kvs, e, r⟩ | ⟨kvs, e, r⟩⟩ := h
    · exact ⟨a, rfl, .inl ⟨kvs, hv a _ rfl rfl e, RepK.go ht hl _ _ r⟩⟩
    · exact ⟨a, rfl, .inr ⟨kvs, hv a _ rfl rfl e, RepT.go ht hl _ _ r⟩⟩
  | none => exact Rep.go ht hl _ _ h
  | bool _ => exact Rep.go ht hl _ _ h
  | int _ => exact Rep.go ht hl _ _ h
  | str _ => exact Rep.go ht hl _ _ h
  | tuple _ => exact Rep.go ht hl _ _ h
theorem Own.ref_some (h : Own K N H d a) : ∃ o, H a = some o ∧ Mut (some o) := by
  obtain ⟨m, h⟩ := h
  cases d with
  | list ds => obtain ⟨b, xs, e, r, _⟩ := h; cases e; exact ⟨_, r, trivial⟩
  | dict es =>
    obtain ⟨b, e, ⟨kvs, r, _⟩ | ⟨kvs, r, _⟩⟩ := h
    · cases e; exact ⟨_, r, trivial⟩
    · cases e; exact ⟨_, r, trivial⟩
  | none => cases m
  | bool _ => cases m
  | int _ => cases m
  | str _ => cases m
  | tuple _ => cases m
end
def plus (N : Addr → Prop) (a : Addr) : Addr → Prop := fun x => N x ∨ x = a
/-- what an operation gives: heap only grown; a new list or dict, or a thing that stands for the data -/
def Out (K : PySem.W.Frag) (N : Addr → Prop) (H H' : Hp) (w : V) (r : PyData × Bool) : Prop :=
  Same H H' ∧ if r.2 = true then ∃ a, w = .ref a ∧ H a = none ∧ Own K (plus N a) H' r.1 a else Rep K N H' w r.1
def NOk (N : Addr → Prop) (H : Hp) : Prop := ∀ a, N a → H a ≠ none
abbrev KO := PyData × Bool → Prop
end EV
namespace EV
open PySem PySem.Spec PyProof.Rows L2 D0
inductive Sl where
  | no | fz (d : PyData) | ow (d : PyData) | bg
abbrev VS := List Sl
structure Dy where
  ad : Nat → Addr
  bc : Option (Addr × Addr)
structure VC where
  N : Addr → Prop
  H0 : Hp
def VC.add (C : VC) (a : Addr) : VC := ⟨plus C.N a, C.H0⟩
def isB (A : Dy) (a : Addr) : Prop := ∃ b c, A.bc = some (b, c) ∧ (a = b ∨ a = c)
def isO (A : Dy) (s : VS) (a : Addr) : Prop := ∃ (i : Nat) (d : PyData), s[i]? = some (Sl.ow d) ∧ A.ad i = a
def M (C : VC) (A : Dy) (s : VS) (a : Addr) : Prop := C.N a ∨ isB A a ∨ isO A s a
structure R (K : PySem.W.Frag) (C : VC) (A : Dy) (σ : L2.St) (H : Hp) (s : VS) : Prop where
  nn : NOk C.N H
  fr : ∀ a o, C.H0 a = some o → (∀ c, A.bc ≠ some (a, c)) → H a = some o
  bg : ∀ b c, A.bc = some (b, c) → (∃ cs, BagAt b c cs H) ∧ ¬ C.N b ∧ ¬ C.N c
  fz : ∀ (i : Nat) (d : PyData), s[i]? = some (Sl.fz d) → ∃ v, σ[i]? = some (some v) ∧ Rep K (M C A s) H v d
  ow : ∀ (i : Nat) (d : PyData), s[i]? = some (Sl.ow d) → σ[i]? = some (some (.ref (A.ad i))) ∧ Own K (M C A s) H d (A.ad i) ∧ C.H0 (A.ad i) = none ∧ ¬ C.N (A.ad i) ∧ ¬ isB A (A.ad i)
  di : ∀ (i j : Nat) (d e : PyData), s[i]? = some (Sl.ow d) → s[j]? = some (Sl.ow e) → A.ad i = A.ad j → i = j
  bs : ∀ i : Nat, s[i]? = some Sl.bg → ∃ b c, A.bc = some (b, c) ∧ σ[i]? = some (some (.ref b))
  ln : σ.length = s.length
def Fr (A : Dy) (s : VS) (H H' : Hp) : Prop := (∀ a o, H a = some o → (∀ c, A.bc ≠ some (a, c)) → ¬ isO A s a → H' a = some o) ∧ ∀ a o, H a = some o → ¬ Mut (some o) → H' a = some o
def Dem (s s' : VS) : Prop := ∀ (i : Nat) (d : PyData), s'[i]? = some (Sl.ow d) → ∃ e : PyData, s[i]? = some (Sl.ow e)
inductive Bv where
  | val (d : PyData) | slot (i : Nat)
section
variable {K : PySem.W.Frag} {C : VC} {A : Dy} {σ : L2.St} {H H' H1 H2 : Hp} {s s' s1 s2 : VS} {v : V} {d : PyData} {a : Addr}
theorem Fr.refl : Fr A s H H := ⟨fun _ _ e _ _ => e, fun _ _ e _ => e⟩
theorem Fr.of_same (h : Same H H') : Fr A s H H' := ⟨fun a o e _ _ => h a o e, fun a o e _ => h a o e⟩
theorem Dem.refl : Dem s s := fun _ d e => ⟨d, e⟩
theorem Dem.trans (x : Dem s s1) (y : Dem s1 s2) : Dem s s2 := fun i d e => by
  obtain ⟨e1, h⟩ := y i d e
  exact x i e1 h
theorem Dem.o (x : Dem s s1) (h : isO A s1 a) : isO A s a := by
  obtain ⟨i, d, e, q⟩ := h
  obtain ⟨e1, h⟩ := x i d e
  exact ⟨i, e1, h, q⟩
theorem Dem.m (x : Dem s s1) (h : M C A s1 a) : M C A s a := h.imp id (Or.imp id x.o)
theorem Fr.trans (x : Fr A s H H1) (m : Dem s s1) (y : Fr A s1 H1 H2) : Fr A s H H2 :=
  ⟨fun a o e n1 n2 => y.1 a o (x.1 a o e n1 n2) n1 fun z => n2 (m.o z), fun a o e n => y.2 a o (x.2 a o e n) n⟩
theorem isB.of {c : Addr} (h : A.bc = some (a, c)) : isB A a := ⟨a, c, h, .inl rfl⟩
theorem Fr.go (x : Fr A s H H') : ∀ a o, H a = some o → ¬ M C A s a → H' a = some o := fun a o e n => x.1 a o e (fun c q => n (.inr (.inl (isB.of q)))) fun z => n (.inr (.inr z))
theorem Fr.sqt {xs : List V} (x : Fr A s H H') (e : TupZ H a xs) : TupZ H' a xs := sqt_of x.2 e
theorem rep_keep (x : Fr A s H H') (m : Dem s s') (r : Rep K (M C A s) H v d) : Rep K (M C A s') H' v d :=
  Rep.go (fun _ _ => x.sqt) (fun a o e n => ⟨x.go a o e n, fun z => n (m.m z)⟩) _ _ r
theorem repA_keep {vs : List V} {ds : List PyData} (x : Fr A s H H') (m : Dem s s') (r : RepA K (M C A s) H vs ds) : RepA K (M C A s') H' vs ds :=
  RepA.go (fun _ _ => x.sqt) (fun a o e n => ⟨x.go a o e n, fun z => n (m.m z)⟩) _ _ r
theorem rep_sub {N N' : Addr → Prop} (h : ∀ a, N' a → N a) (r : Rep K N H v d) : Rep K N' H v d := Rep.go (fun _ _ e => e) (fun a o e n => ⟨e, fun z => n (h a z)⟩) _ _ r
theorem repA_sub {N N' : Addr → Prop} {vs : List V} {ds : List PyData} (h : ∀ a, N' a → N a) (r : RepA K N H vs ds) : RepA K N' H vs ds := RepA.go (fun _ _ e => e) (fun a o e n => ⟨e, fun z => n (h a z)⟩) _ _ r
theorem own_sub {N N' : Addr → Prop} (h : ∀ a, N' a → N a) (r : Own K N H d a) : Own K N' H d a := ⟨r.1, Loose.go (fun _ _ e => e) (fun a o e n => ⟨e, fun z => n (h a z)⟩) (fun _ _ _ _ e => e) r.2⟩
theorem rep_same {N : Addr → Prop} (x : Same H H') (r : Rep K N H v d) : Rep K N H' v d := Rep.go (fun _ _ => sqt_same x) (fun a o e n => ⟨x a o e, n⟩) _ _ r
theorem repA_same {N : Addr → Prop} {vs : List V} {ds : List PyData} (x : Same H H') (r : RepA K N H vs ds) : RepA K N H' vs ds := RepA.go (fun _ _ => sqt_same x) (fun a o e n => ⟨x a o e, n⟩) _ _ r
theorem loose_same {N : Addr → Prop} (x : Same H H') (r : Loose K N H v d) : Loose K N H' v d := Loose.go (fun _ _ => sqt_same x) (fun a o e n => ⟨x a o e, n⟩) (fun a o _ _ e => x a o e) r
theorem own_same {N : Addr → Prop} (x : Same H H') (r : Own K N H d a) : Own K N H' d a := ⟨r.1, loose_same x r.2⟩
/-- what is new is none of what stood -/
theorem rep_plus {N : Addr → Prop} (n : H a = none) (r : Rep K N H v d) : Rep K (plus N a) H v d :=
  Rep.go (fun _ _ e => e) (fun b o e m => ⟨e, fun z => z.elim m fun q => by subst q; rw [n] at e; cases e⟩) _ _ r
theorem repA_plus {N : Addr → Prop} {vs : List V} {ds : List PyData} (n : H a = none) (r : RepA K N H vs ds) : RepA K (plus N a) H vs ds :=
  RepA.go (fun _ _ e => e) (fun b o e m => ⟨e, fun z => z.elim m fun q => by subst q; rw [n] at e; cases e⟩) _ _ r
theorem own_plus {N : Addr → Prop} {b : Addr} (n : H a = none) (r : Own K N H d b) : Own K (plus N a) H d b :=
  ⟨r.1, Loose.go (fun _ _ e => e) (fun b o e m => ⟨e, fun z => z.elim m fun q => by subst q; rw [n] at e; cases e⟩) (fun _ _ _ _ e => e) r.2⟩
theorem M_add : M (C.add a) A s = plus (M C A s) a := by
  funext x
  apply propext
  constructor
  · rintro ((h | h) | h)
    · exact .inl (.inl h)
    · exact .inr h
    · exact .inl (.inr h)
  · rintro ((h | h) | h)
    · exact .inl (.inl h)
    · exact .inr h
    · exact .inl (.inr h)
theorem R.mok (r : R K C A σ H s) : NOk (M C A s) H := by
  rintro a (h | ⟨b, c, h, rfl | rfl⟩ | ⟨i, d, e, rfl⟩)
  · exact r.nn a h
  · obtain ⟨⟨cs, i, z, s, n, k, e, _⟩, _⟩ := r.bg _ _ h
    rw [e]; exact fun z => nomatch z
  · obtain ⟨⟨cs, i, z, s, n, k, e, _, e2, _⟩, _⟩ := r.bg _ _ h
    rw [e2]; exact fun z => nomatch z
  · obtain ⟨_, o, _⟩ := r.ow i d e
    obtain ⟨o, e, _⟩ := o.ref_some
    rw [e]; exact fun z => nomatch z
theorem R.same (r : R K C A σ H s) (x : Same H H') : R K C A σ H' s where
  nn := fun a h => by
    cases e : H a with
    | none => exact absurd e (r.nn a h)
    | some o => rw [x a o e]; exact fun z => nomatch z
  fr := fun a o e n => x a o (r.fr a o e n)
  bg := fun b c h => by
    obtain ⟨⟨cs, B⟩, q⟩ := r.bg b c h
    exact ⟨⟨cs, B.same x⟩, q⟩
  fz := fun i d e => by
    obtain ⟨v, h, q⟩ := r.fz i d e
    exact ⟨v, h, rep_same x q⟩
  ow := fun i d e => by
    obtain ⟨h1, h2, h3⟩ := r.ow i d e
    exact ⟨h1, own_same x h2, h3⟩
  di := r.di
  bs := r.bs
  ln := r.ln
theorem R.add (r : R K C A σ H s) (x : Same H H') (n : H a = none) (h : H' a ≠ none) : R K (C.add a) A σ H' s where
  nn := fun b z => z.elim (fun z => (r.same x).nn b z) fun z => by rw [z]; exact h
  fr := (r.same x).fr
  bg := fun b c e => by
    obtain ⟨⟨cs, B⟩, q1, q2⟩ := r.bg b c e
    refine ⟨⟨cs, B.same x⟩, fun z => z.elim q1 fun z => ?_, fun z => z.elim q2 fun z => ?_⟩
    · exact B.ne n z.symm
    · exact B.ne2 n z.symm
  fz := fun i d e => by
    obtain ⟨v, h, q⟩ := r.fz i d e
    exact ⟨v, h, by rw [M_add]; exact rep_same x (rep_plus n q)⟩
  ow := fun i d e => by
    obtain ⟨h1, h2, h3, h4, h5⟩ := r.ow i d e
    refine ⟨h1, by rw [M_add]; exact own_same x (own_plus n h2), h3, fun z => z.elim h4 fun z => ?_, h5⟩
    obtain ⟨o, q, _⟩ := h2.ref_some
    rw [z, n] at q; cases q
  di := r.di
  bs := r.bs
  ln := r.ln
theorem R.drop (r : R K (C.add a) A σ H s) : R K C A σ H s where
  nn := fun b z => r.nn b (.inl z)
  fr := r.fr
  bg := fun b c e => by
    obtain ⟨h, q1, q2⟩ := r.bg b c e
    exact ⟨h, fun z => q1 (.inl z), fun z => q2 (.inl z)⟩
  fz := fun i d e => by
    obtain ⟨v, h, q⟩ := r.fz i d e
    exact ⟨v, h, rep_sub (fun x z => by rw [M_add]; exact .inl z) q⟩
  ow := fun i d e => by
    obtain ⟨h1, h2, h3, h4, h5⟩ := r.ow i d e
    exact ⟨h1, own_sub (fun x z => by rw [M_add]; exact .inl z) h2, h3, fun z => h4 (.inl z), h5⟩
  di := r.di
  bs := r.bs
  ln := r.ln
theorem R.off (r : R K (C.add a) A σ H s) (n : ¬ C.N a) : ¬ M C A s a := by
  rintro (h | ⟨b, c, h, e⟩ | ⟨i, d, e, q⟩)
  · exact n h
  · obtain ⟨_, q1, q2⟩ := r.bg b c h
    rcases e with e | e
    · exact q1 (.inr e.symm)
    · exact q2 (.inr e.symm)
  · exact (r.ow i d e).2.2.2.1 (.inr q)
theorem R.new0 (r : R K C A σ H s) (n : H a = none) : C.H0 a = none := by
  cases e : C.H0 a with
  | none => rfl
  | some o =>
    have h : ∀ c, A.bc ≠ some (a, c) := fun c q => by
      obtain ⟨⟨cs, B⟩, _⟩ := r.bg a c q
      exact B.ne n rfl
    have := r.fr a o e h
    rw [n] at this; cases this
def BR (K : PySem.W.Frag) (C : VC) (A : Dy) (σ : L2.St) (H : Hp) (s : VS) (v : V) : Bv → Prop
  | .val d => Rep K (M C A s) H v d
  | .slot i => σ[i]? = some (some v)
def ER (K : PySem.W.Frag) (C : VC) (A : Dy) (σ : L2.St) (H : Hp) (s : VS) (v : V) (r : PyData × Bool) : Prop :=
  if r.2 = true then ∃ a, v = .ref a ∧ C.H0 a = none ∧ ¬ C.N a ∧ R K (C.add a) A σ H s ∧ Own K (M (C.add a) A s) H r.1 a else R K C A σ H s ∧ Rep K (M C A s) H v r.1
abbrev FB := VS → (Bv → VS → Prop) → Prop
abbrev FA := VS → (List Bv → VS → Prop) → Prop
abbrev FE := VS → (PyData × Bool → VS → Prop) → Prop
abbrev FT := VS → (Bool → VS → Prop) → Prop
structure LB (K : PySem.W.Frag) (te : TE) (f : FB) : Prop where
  run : ∀ C A σ H s P Q, R K C A σ H s → f s P → (∀ H' v bv s', P bv s' → R K C A σ H' s' → Fr A s H H' → Dem s s' → BR K C A σ H' s' v bv → Q v H') → te σ H Q
structure LA (K : PySem.W.Frag) (ta : TA) (f : FA) : Prop where
  run : ∀ C A σ H s P Q, R K C A σ H s → f s P → (∀ H' vs bvs s', P bvs s' → R K C A σ H' s' → Fr A s H H' → Dem s s' → Paired (BR K C A σ H' s') vs bvs → Q vs H') → ta σ H Q
/-- behind an expression -/
structure Pst (K : PySem.W.Frag) (C : VC) (A : Dy) (σ : L2.St) (s : VS) (H : Hp) (s' : VS) (H' : Hp) (v : V) (r : PyData × Bool) : Prop where
  fr : Fr A s H H'
  dm : Dem s s'
  er : ER K C A σ H' s' v r
  nw : ∀ a, r.2 = true → v = .ref a → H a = none ∨ M C A s a
theorem Pst.after {r : PyData × Bool} (fr : Fr A s H H1) (dm : Dem s s1) (p : Pst K C A σ s1 H1 s' H' v r) : Pst K C A σ s H s' H' v r :=
  ⟨fr.trans dm p.fr, dm.trans p.dm, p.er, fun a h e => by
    rcases p.nw a h e with z | z
    · by_cases m : M C A s a
      · exact .inr m
      · cases q : H a with
        | none => exact .inl rfl
        | some o => rw [fr.go a o q m] at z; cases z
    · exact .inr (dm.m z)⟩
theorem Pst.plain {d : PyData} (fr : Fr A s H H') (dm : Dem s s') (r : R K C A σ H' s') (rp : Rep K (M C A s') H' v d) : Pst K C A σ s H s' H' v (d, false) := ⟨fr, dm, ⟨r, rp⟩, fun _ h _ => nomatch h⟩
structure LE (K : PySem.W.Frag) (te : TE) (f : FE) : Prop where
  run : ∀ C A σ H s P Q, R K C A σ H s → f s P → (∀ H' v r s', P r s' → Pst K C A σ s H s' H' v r → Q v H') → te σ H Q
structure LT (K : PySem.W.Frag) (tt : TT) (f : FT) : Prop where
  run : ∀ C A σ H s P Q, R K C A σ H s → f s P → (∀ H' b s', P b s' → R K C A σ H' s' → Fr A s H H' → Dem s s' → Q b H') → tt σ H Q
theorem ER.fz {r : PyData × Bool} (h : ER K C A σ H s v r) : R K C A σ H s ∧ Rep K (M C A s) H v r.1 := by
  obtain ⟨d, b⟩ := r
  cases b with
  | false => exact h
  | true =>
    obtain ⟨a, rfl, _, n, q, o⟩ := h
    exact ⟨q.drop, (own_sub (fun x z => by rw [M_add]; exact .inl z) o).rep (q.off n)⟩
def rsv (s : VS) : Bv → Option PyData
  | .val d => some d
  | .slot i => match s[i]? with
    | some (.fz d) => some d
    | some (.ow d) => some d
    | _ => none
theorem BR.keep {bv : Bv} (h : BR K C A σ H s v bv) (x : Fr A s H H') (m : Dem s s') : BR K C A σ H' s' v bv := by
  cases bv with
  | val d => exact rep_keep x m h
  | slot i => exact h
theorem BR.loose {bv : Bv} (h : BR K C A σ H s v bv) (r : R K C A σ H s) (e : rsv s bv = some d) : Loose K (M C A s) H v d := by
  cases bv with
  | val d' => cases e; exact Rep.loose h
  | slot i =>
    unfold rsv at e
    simp only at e
    split at e
    · rename_i d' q
      cases e
      obtain ⟨w, h1, h2⟩ := r.fz i _ q
      rw [show σ[i]? = some (some v) from h] at h1
      cases h1
      exact h2.loose
    · rename_i d' q
      cases e
      obtain ⟨h1, h2, _⟩ := r.ow i _ q
      rw [show σ[i]? = some (some v) from h] at h1
      cases h1
      exact h2.2
    · cases e
theorem out_er (r : R K C A σ H s) {w : V} {x : PyData × Bool} (o : Out K (M C A s) H H' w x) : Pst K C A σ s H s H' w x := by
  obtain ⟨sm, o⟩ := o
  obtain ⟨d, b⟩ := x
  cases b with
  | false => exact .plain (.of_same sm) .refl (r.same sm) o
  | true =>
    obtain ⟨a, rfl, n, ow⟩ := o
    obtain ⟨ob, q, _⟩ := ow.ref_some
    refine ⟨.of_same sm, .refl, ⟨a, rfl, r.new0 n, fun z => r.nn a z n, r.add sm n (by rw [q]; exact fun z => nomatch z), by rw [M_add]; exact ow⟩, fun b _ e => by cases e; exact .inl n⟩
def OpL1 (K : PySem.W.Frag) (r : V → Hp → VK → Prop) (f : PyData → KO → Prop) : Prop := ∀ N H v d k Q, NOk N H → Loose K N H v d → f d k → (∀ H' w x, k x → Out K N H H' w x → Q w H') → r v H Q
def OpL2 (K : PySem.W.Frag) (r : R2) (f : PyData → PyData → KO → Prop) : Prop := ∀ N H u v d e k Q, NOk N H → Loose K N H u d → Loose K N H v e → f d e k → (∀ H' w x, k x → Out K N H H' w x → Q w H') → r u v H Q
abbrev LooseA (K : PySem.W.Frag) (N : Addr → Prop) (H : Hp) : List V → List PyData → Prop := Paired (Loose K N H)
def OpLA (K : PySem.W.Frag) (r : List V → Hp → VK → Prop) (f : List PyData → KO → Prop) : Prop := ∀ N H vs ds k Q, NOk N H → LooseA K N H vs ds → f ds k → (∀ H' w x, k x → Out K N H H' w x → Q w H') → r vs H Q
def rsvA (s : VS) : List Bv → Option (List PyData)
  | [] => some []
  | b :: bs => match rsv s b, rsvA s bs with
    | some d, some ds => some (d :: ds)
    | _, _ => none
theorem looseA (r : R K C A σ H s) : ∀ {vs : List V} {bvs : List Bv} {ds : List PyData}, Paired (BR K C A σ H s) vs bvs → rsvA s bvs = some ds → LooseA K (M C A s) H vs ds
  | _, _, _, .nil, e => by cases e; exact .nil
  | _, _, _, .cons (b := b) (l₂ := bs) h t, e => by
    unfold rsvA at e
    split at e
    · rename_i d ds q1 q2
      cases e
      exact .cons (h.loose r q1) (looseA r t q2)
    · cases e
def vOf (f : FE) : FB := fun s P => f s fun r s' => P (.val r.1) s'
def vRef (i : Nat) : FB := fun s P => (rsv s (.slot i)).isSome = true ∧ P (.slot i) s
def vVar (i : Nat) : FE := fun s P => match s[i]? with
  | some (.fz d) => P (d, false) s
  | some (.ow d) => P (d, false) (s.set i (.fz d))
  | _ => False
def vMove (i : Nat) : FE := fun s P => match s[i]? with
  | some (.fz d) => P (d, false) s
  | some (.ow d) => P (d, true) (s.set i .no)
  | _ => False
def vC (d : PyData) : FE := fun s P => P (d, false) s
def vUn (f : PyData → KO → Prop) (a : FB) : FE := fun s P => a s fun x s1 => ∃ d, rsv s1 x = some d ∧ f d fun r => P r s1
def vOp (f : PyData → PyData → KO → Prop) (a b : FB) : FE := fun s P => a s fun x s1 => b s1 fun y s2 => ∃ d e, rsv s2 x = some d ∧ rsv s2 y = some e ∧ f d e fun r => P r s2
def vCall (f : List PyData → KO → Prop) (a : FA) : FE := fun s P => a s fun xs s1 => ∃ ds, rsvA s1 xs = some ds ∧ f ds fun r => P r s1
def vNil : FA := fun s P => P [] s
def vCons (a : FB) (b : FA) : FA := fun s P => a s fun x s1 => b s1 fun xs s2 => P (x :: xs) s2
theorem lb_of {te : TE} {f : FE} (h : LE K te f) : LB K te (vOf f) := ⟨fun C A σ H s P Q r p q => h.run C A σ H s _ Q r p fun H' v x s' px o => q H' v _ s' px o.er.fz.1 o.fr o.dm o.er.fz.2⟩
theorem lb_ref {i : Nat} : LB K (tVar i) (vRef i) := ⟨fun C A σ H s P Q r p q => by
  obtain ⟨h, p⟩ := p
  have : ∃ v, σ[i]? = some (some v) := by
    unfold rsv at h
    simp only at h
    split at h
    · rename_i d e
      obtain ⟨v, e, _⟩ := r.fz i d e
      exact ⟨v, e⟩
    · rename_i d e
      exact ⟨_, (r.ow i d e).1⟩
    · cases h
  obtain ⟨v, e⟩ := this
  exact ⟨v, e, q H v _ s p r .refl .refl e⟩⟩
theorem le_c {v : V} {d : PyData} (h : ∀ N H, Rep K N H v d) : LE K (tC v) (vC d) := ⟨fun C A σ H s P Q r p q => q H v (d, false) s p (.plain .refl .refl r (h _ _))⟩
theorem getset {i j : Nat} {x : Sl} (s : VS) : (s.set i x)[j]? = if i = j then (if i < s.length then some x else none) else s[j]? := by
  rw [List.getElem?_set]
theorem get_ne {i j : Nat} {x : Sl} {s : VS} (h : i ≠ j) : (s.set i x)[j]? = s[j]? := by rw [List.getElem?_set, if_neg h]
theorem get_eq {i : Nat} {x : Sl} {s : VS} {y : Sl} (h : (s.set i x)[i]? = some y) : y = x := by
  rw [List.getElem?_set, if_pos rfl] at h
  split at h
  · cases h; rfl
  · cases h
/-- who was the owner is one no more -/
theorem isO_set {i : Nat} {x : Sl} (hx : ∀ d, x ≠ .ow d) (h : isO A (s.set i x) a) : ∃ j d, j ≠ i ∧ s[j]? = some (.ow d) ∧ A.ad j = a := by
  obtain ⟨j, d, e, q⟩ := h
  by_cases ij : i = j
  · subst ij
    exact absurd (get_eq e).symm (hx d)
  · rw [get_ne ij] at e
    exact ⟨j, d, fun z => ij z.symm, e, q⟩
theorem dem_set {i : Nat} {x : Sl} (hx : ∀ d, x ≠ .ow d) : Dem s (s.set i x) := fun j d e => by
  by_cases ij : i = j
  · subst ij
    exact absurd (get_eq e).symm (hx d)
  · rw [get_ne ij] at e
    exact ⟨d, e⟩
theorem R.freeze {i : Nat} (r : R K C A σ H s) (e : s[i]? = some (.ow d)) : R K C A σ H (s.set i (.fz d)) ∧ Rep K (M C A (s.set i (.fz d))) H (.ref (A.ad i)) d := by
  have hx : ∀ d', Sl.fz d ≠ .ow d' := fun _ z => nomatch z
  have dm := dem_set (s := s) (i := i) hx
  obtain ⟨h1, h2, h3, h4, h5⟩ := r.ow i d e
  have rp : Rep K (M C A (s.set i (.fz d))) H (.ref (A.ad i)) d := by
    refine (own_sub (fun x z => dm.m z) h2).rep ?_
    rintro (h | h | h)
    · exact h4 h
    · exact h5 h
    · obtain ⟨j, d', ne, e', q⟩ := isO_set hx h
      exact ne (r.di j i d' d e' e q)
  refine ⟨⟨r.nn, r.fr, r.bg, fun j d' e' => ?_, fun j d' e' => ?_, fun j k d1 d2 e1 e2 => ?_, fun j e' => ?_, by rw [List.length_set]; exact r.ln⟩, rp⟩
  · by_cases ij : i = j
    · subst ij
      cases get_eq e'
      exact ⟨_, h1, rp⟩
    · rw [get_ne ij] at e'
      obtain ⟨v, h, q⟩ := r.fz j d' e'
      exact ⟨v, h, rep_sub (fun x z => dm.m z) q⟩
  · by_cases ij : i = j
    · subst ij
      exact nomatch get_eq e'
    · rw [get_ne ij] at e'
      obtain ⟨g1, g2, g3⟩ := r.ow j d' e'
      exact ⟨g1, own_sub (fun x z => dm.m z) g2, g3⟩
  · obtain ⟨d1', e1'⟩ := dm j d1 e1
    obtain ⟨d2', e2'⟩ := dm k d2 e2
    exact r.di j k _ _ e1' e2'
  · by_cases ij : i = j
    · subst ij
      exact nomatch get_eq e'
    · rw [get_ne ij] at e'
      exact r.bs j e'
theorem R.move {i : Nat} (r : R K C A σ H s) (e : s[i]? = some (.ow d)) : R K (C.add (A.ad i)) A σ H (s.set i .no) ∧ Own K (M (C.add (A.ad i)) A (s.set i .no)) H d (A.ad i) := by
  have hx : ∀ d', Sl.no ≠ .ow d' := fun _ z => nomatch z
  have dm := dem_set (s := s) (i := i) hx
  obtain ⟨h1, h2, h3, h4, h5⟩ := r.ow i d e
  have sub : ∀ x, M (C.add (A.ad i)) A (s.set i .no) x → M C A s x := fun x z => by
    rw [M_add] at z
    rcases z with z | z
    · exact dm.m z
    · exact .inr (.inr ⟨i, d, e, z.symm⟩)
  refine ⟨⟨fun b z => ?_, r.fr, fun b c q => ?_, fun j d' e' => ?_, fun j d' e' => ?_, fun j k d1 d2 e1 e2 => ?_, fun j e' => ?_, by rw [List.length_set]; exact r.ln⟩, own_sub sub h2⟩
  · rcases z with z | z
    · exact r.nn b z
    · obtain ⟨o, q, _⟩ := h2.ref_some
      rw [z, q]; exact fun z => nomatch z
  · obtain ⟨g, g1, g2⟩ := r.bg b c q
    exact ⟨g, fun z => z.elim g1 fun z => h5 ⟨b, c, q, .inl z.symm⟩, fun z => z.elim g2 fun z => h5 ⟨b, c, q, .inr z.symm⟩⟩
  · by_cases ij : i = j
    · subst ij
      exact nomatch get_eq e'
    · rw [get_ne ij] at e'
      obtain ⟨v, h, q⟩ := r.fz j d' e'
      exact ⟨v, h, rep_sub sub q⟩
  · by_cases ij : i = j
    · subst ij
      exact nomatch get_eq e'
    · rw [get_ne ij] at e'
      obtain ⟨g1, g2, g3, g4, g5⟩ := r.ow j d' e'
      exact ⟨g1, own_sub sub g2, g3, fun z => z.elim g4 fun z => ij (r.di i j _ _ e e' z.symm), g5⟩
  · obtain ⟨d1', e1'⟩ := dm j d1 e1
    obtain ⟨d2', e2'⟩ := dm k d2 e2
    exact r.di j k _ _ e1' e2'
  · by_cases ij : i = j
    · subst ij
      exact nomatch get_eq e'
    · rw [get_ne ij] at e'
      exact r.bs j e'
theorem le_var {i : Nat} : LE K (tVar i) (vVar i) := ⟨fun C A σ H s P Q r p q => by
  unfold vVar at p
  split at p
  · rename_i d e
    obtain ⟨v, h, rp⟩ := r.fz i d e
    exact ⟨v, h, q H v _ s p (.plain .refl .refl r rp)⟩
  · rename_i d e
    obtain ⟨h1, h2⟩ := r.freeze e
    exact ⟨_, (r.ow i d e).1, q H _ _ _ p (.plain .refl (dem_set fun _ z => nomatch z) h1 h2)⟩
  · exact p.elim⟩
theorem le_move {i : Nat} : LE K (tVar i) (vMove i) := ⟨fun C A σ H s P Q r p q => by
  unfold vMove at p
  split at p
  · rename_i d e
    obtain ⟨v, h, rp⟩ := r.fz i d e
    exact ⟨v, h, q H v _ s p (.plain .refl .refl r rp)⟩
  · rename_i d e
    obtain ⟨h1, h2⟩ := r.move e
    obtain ⟨g1, g2, g3, g4, g5⟩ := r.ow i d e
    exact ⟨_, g1, q H _ _ _ p ⟨.refl, dem_set (fun _ z => nomatch z), ⟨_, rfl, g3, g4, h1, h2⟩, fun b _ e' => by cases e'; exact .inr (.inr (.inr ⟨i, d, e, rfl⟩))⟩⟩
  · exact p.elim⟩
theorem le_un {ta : TE} {fa : FB} {r : V → Hp → VK → Prop} {f : PyData → KO → Prop} (ho : OpL1 K r f) (ha : LB K ta fa) : LE K (tUn r ta) (vUn f fa) := ⟨fun C A σ H s P Q R0 p q => by
  refine ha.run C A σ H s _ _ R0 p fun H1 v bv s1 ⟨d, e, px⟩ R1 fr dm br => ?_
  refine ho _ H1 v d _ _ R1.mok (br.loose R1 e) px fun H2 w x kx o => ?_
  exact q H2 w x s1 kx (.after fr dm (out_er R1 o))⟩
theorem le_op {ta tb : TE} {fa fb : FB} {r : R2} {f : PyData → PyData → KO → Prop} (ho : OpL2 K r f) (ha : LB K ta fa) (hb : LB K tb fb) : LE K (tOp r ta tb) (vOp f fa fb) := ⟨fun C A σ H s P Q R0 p q => by
  refine ha.run C A σ H s _ _ R0 p fun H1 v bv s1 p1 R1 fr dm br => ?_
  refine hb.run C A σ H1 s1 _ _ R1 p1 fun H2 v2 bv2 s2 ⟨d, e, e1, e2, px⟩ R2 fr2 dm2 br2 => ?_
  refine ho _ H2 v v2 d e _ _ R2.mok ((br.keep fr2 dm2).loose R2 e1) (br2.loose R2 e2) px fun H3 w x kx o => ?_
  exact q H3 w x s2 kx (.after (fr.trans dm fr2) (dm.trans dm2) (out_er R2 o))⟩
theorem la_nil : LA K tNil vNil := ⟨fun C A σ H s P Q r p q => q H [] [] s p r .refl .refl .nil⟩
theorem la_cons {ta : TE} {tr : TA} {fa : FB} {fr : FA} (ha : LB K ta fa) (hr : LA K tr fr) : LA K (tCons ta tr) (vCons fa fr) := ⟨fun C A σ H s P Q R0 p q => by
  refine ha.run C A σ H s _ _ R0 p fun H1 v bv s1 p1 R1 fr dm br => ?_
  refine hr.run C A σ H1 s1 _ _ R1 p1 fun H2 vs bvs s2 px R2 fr2 dm2 brs => ?_
  exact q H2 _ _ s2 px R2 (fr.trans dm fr2) (dm.trans dm2) (.cons (br.keep fr2 dm2) brs)⟩
theorem le_cb {ta : TA} {fa : FA} {r : List V → Hp → VK → Prop} {f : List PyData → KO → Prop} (ho : OpLA K r f) (ha : LA K ta fa) : LE K (tCB r ta) (vCall f fa) := ⟨fun C A σ H s P Q R0 p q => by
  refine ha.run C A σ H s _ _ R0 p fun H1 vs bvs s1 ⟨ds, e, px⟩ R1 fr dm brs => ?_
  refine ho _ H1 vs ds _ _ R1.mok (looseA R1 brs e) px fun H2 w x kx o => ?_
  exact q H2 w x s1 kx (.after fr dm (out_er R1 o))⟩
abbrev VSp := List PyData → KO → Prop
/-- the promise of a def that changes nothing that stood -/
def spV (K : PySem.W.Frag) (sp : VSp) : Sp := fun vs H Q _ => ∃ N ds k, NOk N H ∧ RepA K N H vs ds ∧ sp ds k ∧ ∀ H' w x, k x → Out K N H H' w x → Q w H'
/-- the promise of a def that draws from the bag that it gets first -/
def OutB (K : PySem.W.Frag) (N : Addr → Prop) (b c : Addr) (H H' : Hp) (w : V) (r : PyData × Bool) : Prop :=
  Off b H H' ∧ (∃ cs, BagAt b c cs H') ∧ if r.2 = true then ∃ a, w = .ref a ∧ H a = none ∧ Own K (plus (fun x => N x ∨ x = b ∨ x = c) a) H' r.1 a else Rep K (fun x => N x ∨ x = b ∨ x = c) H' w r.1
def spB (K : PySem.W.Frag) (sp : VSp) : Sp := fun vs H Q _ => ∃ N b c us ds k, vs = .ref b :: us ∧ NOk N H ∧ ¬ N b ∧ ¬ N c ∧ (∃ cs, BagAt b c cs H) ∧ RepA K (fun x => N x ∨ x = b ∨ x = c) H us ds ∧ sp ds k ∧ ∀ H' w x, k x → OutB K N b c H H' w x → Q w H'
end
end EV
namespace EV
open PySem PySem.Spec PyProof.Rows L2 D0
structure VEnds where
  nx : VS → Prop
  rt : PyData × Bool → VS → Prop
  bk : VS → Prop := fun _ => False
  ct : VS → Prop := fun _ => False
abbrev FS := VS → VEnds → Prop
abbrev FG := PyData → VS → (VS → Prop) → Prop
abbrev FGs := List PyData → VS → (VS → Prop) → Prop
abbrev FI := VS → (List PyData → VS → Prop) → Prop
/-- what was frozen at first is frozen behind -/
structure SFr (C : VC) (A : Dy) (s : VS) (H : Hp) (A' : Dy) (s' : VS) (H' : Hp) : Prop where
  fz : ∀ a o, H a = some o → ¬ M C A s a → H' a = some o ∧ ¬ M C A' s' a
  tp : ∀ a o, H a = some o → ¬ Mut (some o) → H' a = some o
  bc : A'.bc = A.bc
section
variable {K : PySem.W.Frag} {C : VC} {A A' A1 A2 : Dy} {σ σ' : L2.St} {H H' H1 H2 : Hp} {s s' s1 s2 : VS} {v : V} {d : PyData} {a : Addr}
theorem SFr.refl : SFr C A s H A s H := ⟨fun _ _ e n => ⟨e, n⟩, fun _ _ e _ => e, rfl⟩
theorem SFr.trans (x : SFr C A s H A1 s1 H1) (y : SFr C A1 s1 H1 A2 s2 H2) : SFr C A s H A2 s2 H2 :=
  ⟨fun a o e n => y.fz a o (x.fz a o e n).1 (x.fz a o e n).2, fun a o e n => y.tp a o (x.tp a o e n) n, by
    exact y.bc.trans x.bc⟩
theorem SFr.of_fr (x : Fr A s H H') (m : Dem s s') : SFr C A s H A s' H' := ⟨fun a o e n => ⟨x.go a o e n, fun z => n (m.m z)⟩, x.2, rfl⟩
theorem SFr.rep (x : SFr C A s H A' s' H') (r : Rep K (M C A s) H v d) : Rep K (M C A' s') H' v d := Rep.go (fun _ _ e => sqt_of x.tp e) x.fz _ _ r
structure LS (K : PySem.W.Frag) (ts : TS) (g : FS) : Prop where
  run : ∀ (C : VC) (A : Dy) (σ : L2.St) (H : Hp) (s : VS) (E : VEnds) (D : Ends), R K C A σ H s → g s E →
    (∀ A' σ' H' s', E.nx s' → R K C A' σ' H' s' → SFr C A s H A' s' H' → D.nx σ' H') →
    (∀ A' σ' H' s' v r, E.rt r s' → ER K C A' σ' H' s' v r → A'.bc = A.bc → D.rt v H') →
    (∀ A' σ' H' s', E.bk s' → R K C A' σ' H' s' → SFr C A s H A' s' H' → D.bk σ' H') →
    (∀ A' σ' H' s', E.ct s' → R K C A' σ' H' s' → SFr C A s H A' s' H' → D.ct σ' H') → ts D σ H
structure LG (K : PySem.W.Frag) (tg : TG) (g : FG) : Prop where
  run : ∀ C A σ H s v d P Q, R K C A σ H s → Rep K (M C A s) H v d → g d s P → (∀ σ' s', P s' → R K C A σ' H s' → Dem s s' → Q σ' H) → tg v σ H Q
structure LGs (K : PySem.W.Frag) (tg : TGs) (g : FGs) : Prop where
  run : ∀ C A σ H s vs ds P Q, R K C A σ H s → RepA K (M C A s) H vs ds → g ds s P → (∀ σ' s', P s' → R K C A σ' H s' → Dem s s' → Q σ' H) → tg vs σ H Q
/-- what is walked gives ds, as long as what is frozen now stays -/
def ItR (K : PySem.W.Frag) (N : Addr → Prop) (H : Hp) (J : It) (ds : List PyData) : Prop := ∀ (N' : Addr → Prop) (H' : Hp), (∀ a o, H a = some o → ¬ N a → H' a = some o ∧ ¬ N' a) → (∀ a o, H a = some o → ¬ Mut (some o) → H' a = some o) →
  J.stop ds.length H' ∧ ∀ (i : Nat) (d : PyData), ds[i]? = some d → J.go i H' ∧ ∀ x H'', J.yld i H' x H'' → Same H' H'' ∧ Rep K N' H'' x d
structure LI (K : PySem.W.Frag) (wi : TI) (f : FI) : Prop where
  run : ∀ C A σ H s P Q, R K C A σ H s → f s P → (∀ H' J ds s', P ds s' → R K C A σ H' s' → Fr A s H H' → Dem s s' → ItR K (M C A s') H' J ds → Q J H') → wi σ H Q
def vTest (f : FE) : FT := fun s P => f s fun r s' => ∃ k, r = (.bool k, false) ∧ P k s'
def vAnd (f g : FT) : FT := fun s P => f s fun b s1 => if b = true then g s1 P else P false s1
def vOr (f g : FT) : FT := fun s P => f s fun b s1 => if b = true then P true s1 else g s1 P
def vNot (f : FT) : FT := fun s P => f s fun b s1 => P (!b) s1
def vYes : FT := fun s P => P true s
theorem lt_test {te : TE} {f : FE} (h : LE K te f) : LT K (tTest te) (vTest f) := ⟨fun C A σ H s P Q r p q => h.run C A σ H s _ _ r p fun H' v x s' ⟨k, e, px⟩ o => by
  subst e
  obtain ⟨r', rp⟩ := o.er
  cases rp
  exact ⟨k, rfl, q H' k s' px r' o.fr o.dm⟩⟩
theorem lt_B {te : TE} {f : FE} (h : LE K te f) : LT K (tB te) (vTest f) := ⟨fun C A σ H s P Q r p q => h.run C A σ H s _ _ r p fun H' v x s' ⟨k, e, px⟩ o => by
  subst e
  obtain ⟨r', rp⟩ := o.er
  cases rp
  exact ⟨k, rfl, q H' k s' px r' o.fr o.dm⟩⟩
theorem lt_and {t u : TT} {f g : FT} (h : LT K t f) (h2 : LT K u g) : LT K (tAnd t u) (vAnd f g) := ⟨fun C A σ H s P Q r p q => by
  refine h.run C A σ H s _ _ r p fun H1 b s1 p1 r1 fr dm => ?_
  cases b with
  | true => exact iteT (h2.run C A σ H1 s1 _ _ r1 (by simpa using p1) fun H2 b s2 p2 r2 fr2 dm2 => q H2 b s2 p2 r2 (fr.trans dm fr2) (dm.trans dm2))
  | false => exact iteF (q H1 false s1 (by simpa using p1) r1 fr dm)⟩
theorem lt_or {t u : TT} {f g : FT} (h : LT K t f) (h2 : LT K u g) : LT K (tOr t u) (vOr f g) := ⟨fun C A σ H s P Q r p q => by
  refine h.run C A σ H s _ _ r p fun H1 b s1 p1 r1 fr dm => ?_
  cases b with
  | false => exact iteF (h2.run C A σ H1 s1 _ _ r1 (by simpa using p1) fun H2 b s2 p2 r2 fr2 dm2 => q H2 b s2 p2 r2 (fr.trans dm fr2) (dm.trans dm2))
  | true => exact iteT (q H1 true s1 (by simpa using p1) r1 fr dm)⟩
theorem lt_not {t : TT} {f : FT} (h : LT K t f) : LT K (tNot t) (vNot f) := ⟨fun C A σ H s P Q r p q => h.run C A σ H s _ _ r p fun H1 b s1 p1 r1 fr dm => q H1 (!b) s1 p1 r1 fr dm⟩
theorem lt_yes : LT K tYes vYes := ⟨fun C A σ H s P Q r p q => q H true s p r .refl .refl⟩
def vAndV (f g : FE) : FE := fun s P => f s fun x s1 => ∃ c, x = (.bool c, false) ∧ if c = true then g s1 P else P (.bool false, false) s1
def vOrV (f g : FE) : FE := fun s P => f s fun x s1 => ∃ c, x = (.bool c, false) ∧ if c = true then P (.bool true, false) s1 else g s1 P
def vNotV (f : FE) : FE := fun s P => f s fun x s1 => ∃ c, x = (.bool c, false) ∧ P (.bool (!c), false) s1
def vIfE (f : FT) (g h : FE) : FE := fun s P => f s fun b s1 => if b = true then g s1 P else h s1 P
theorem le_andV {t u : TE} {f g : FE} (h : LE K t f) (h2 : LE K u g) : LE K (tAndV t u) (vAndV f g) := ⟨fun C A σ H s P Q r p q => by
  refine h.run C A σ H s _ _ r p fun H1 v x s1 ⟨c, e, p1⟩ o => ?_
  subst e
  obtain ⟨fr, dm, ⟨r1, rp⟩, _⟩ := o
  cases rp
  refine ⟨c, rfl, ?_⟩
  cases c with
  | true => exact iteT (h2.run C A σ H1 s1 _ _ r1 (by simpa using p1) fun H2 v x s2 p2 o => q H2 v x s2 p2 (.after fr dm o))
  | false => exact iteF (q H1 _ _ s1 (by simpa using p1) (.plain fr dm r1 (.bl false)))⟩
theorem le_orV {t u : TE} {f g : FE} (h : LE K t f) (h2 : LE K u g) : LE K (tOrV t u) (vOrV f g) := ⟨fun C A σ H s P Q r p q => by
  refine h.run C A σ H s _ _ r p fun H1 v x s1 ⟨c, e, p1⟩ o => ?_
  subst e
  obtain ⟨fr, dm, ⟨r1, rp⟩, _⟩ := o
  cases rp
  refine ⟨c, rfl, ?_⟩
  cases c with
  | false => exact iteF (h2.run C A σ H1 s1 _ _ r1 (by simpa using p1) fun H2 v x s2 p2 o => q H2 v x s2 p2 (.after fr dm o))
  | true => exact iteT (q H1 _ _ s1 (by simpa using p1) (.plain fr dm r1 (.bl true)))⟩
theorem le_notV {t : TE} {f : FE} (h : LE K t f) : LE K (tNotV t) (vNotV f) := ⟨fun C A σ H s P Q r p q => h.run C A σ H s _ _ r p fun H1 v x s1 ⟨c, e, p1⟩ o => by
  subst e
  obtain ⟨fr, dm, ⟨r1, rp⟩, _⟩ := o
  cases rp
  exact ⟨c, rfl, q H1 _ _ s1 p1 (.plain fr dm r1 (.bl _))⟩⟩
theorem le_ifE {c : TT} {t u : TE} {f : FT} {g k : FE} (h0 : LT K c f) (h : LE K t g) (h2 : LE K u k) : LE K (tIf c t u) (vIfE f g k) := ⟨fun C A σ H s P Q r p q => by
  refine h0.run C A σ H s _ _ r p fun H1 b s1 p1 r1 fr dm => ?_
  cases b with
  | true => exact iteT (h.run C A σ H1 s1 _ _ r1 (by simpa using p1) fun H2 v x s2 p2 o => q H2 v x s2 p2 (.after fr dm o))
  | false => exact iteF (h2.run C A σ H1 s1 _ _ r1 (by simpa using p1) fun H2 v x s2 p2 o => q H2 v x s2 p2 (.after fr dm o))⟩
/-- a < b < c -/
def vChain (f f' : PyData → PyData → KO → Prop) (a b c : FB) : FE := fun s P => a s fun x s1 => b s1 fun y s2 => ∃ d e, rsv s2 x = some d ∧ rsv s2 y = some e ∧ f d e fun r => ∃ k, r = (.bool k, false) ∧
  if k = true then c s2 fun z s3 => ∃ e g, rsv s3 y = some e ∧ rsv s3 z = some g ∧ f' e g fun r => P r s3 else P (.bool false, false) s2
theorem le_chain {ta tb tc : TE} {fa fb fc : FB} {r r' : R2} {f f' : PyData → PyData → KO → Prop} (ho : OpL2 K r f) (ho' : OpL2 K r' f') (ha : LB K ta fa) (hb : LB K tb fb) (hc : LB K tc fc) : LE K (tChain r r' ta tb tc) (vChain f f' fa fb fc) := ⟨fun C A σ H s P Q R0 p q => by
  refine ha.run C A σ H s _ _ R0 p fun H1 v bv s1 p1 R1 fr dm br => ?_
  refine hb.run C A σ H1 s1 _ _ R1 p1 fun H2 v2 bv2 s2 ⟨d, e, e1, e2, px⟩ R2 fr2 dm2 br2 => ?_
  refine ho _ H2 v v2 d e _ _ R2.mok ((br.keep fr2 dm2).loose R2 e1) (br2.loose R2 e2) px fun H3 w x ⟨k, ek, kx⟩ o => ?_
  subst ek
  obtain ⟨fr3, _, ⟨R3, rp⟩, _⟩ := out_er R2 o
  cases rp
  refine ⟨k, rfl, ?_⟩
  have F := (fr.trans dm fr2).trans (dm.trans dm2) fr3
  cases k with
  | false => exact iteF (q H3 _ _ s2 (by simpa using kx) (.plain F (dm.trans dm2) R3 (.bl false)))
  | true =>
    rw [if_pos rfl] at kx
    refine iteT (hc.run C A σ H3 s2 _ _ R3 kx fun H4 v4 bv4 s4 ⟨e', g, e3, e4, px4⟩ R4 fr4 dm4 br4 => ?_)
    refine ho' _ H4 v2 v4 e' g _ _ R4.mok (((br2.keep fr3 .refl).keep fr4 dm4).loose R4 e3) (br4.loose R4 e4) px4 fun H5 w x kx o => ?_
    exact q H5 w x s4 kx (.after (F.trans (dm.trans dm2) fr4) ((dm.trans dm2).trans dm4) (out_er R4 o))⟩
def gN (i : Nat) : FG := fun d s P => P (s.set i (.fz d))
def gT (n : Nat) (g : FGs) : FG := fun d s P => ∃ ds, d = .tuple ds ∧ ds.length = n ∧ g ds s P
def gsNil : FGs := fun ds s P => ds = [] ∧ P s
def gsCons (g : FG) (gs : FGs) : FGs := fun ds s P => ∃ d r, ds = d :: r ∧ g d s fun s1 => gs r s1 P
theorem R.setFz {i : Nat} (r : R K C A σ H s) (rp : Rep K (M C A s) H v d) : R K C A (σ.set i (some v)) H (s.set i (.fz d)) := by
  have hx : ∀ d', Sl.fz d ≠ .ow d' := fun _ z => nomatch z
  have dm := dem_set (s := s) (i := i) hx
  refine ⟨r.nn, r.fr, r.bg, fun j d' e' => ?_, fun j d' e' => ?_, fun j k d1 d2 e1 e2 => ?_, fun j e' => ?_, by rw [List.length_set, List.length_set]; exact r.ln⟩
  · by_cases ij : i = j
    · subst ij
      have hi : i < s.length := by
        rw [List.getElem?_set, if_pos rfl] at e'
        split at e'
        · assumption
        · cases e'
      cases get_eq e'
      exact ⟨v, by rw [List.getElem?_set, if_pos rfl, if_pos (by rw [r.ln]; exact hi)], rep_sub (fun x z => dm.m z) rp⟩
    · rw [get_ne ij] at e'
      obtain ⟨w, h, q⟩ := r.fz j d' e'
      exact ⟨w, by rw [List.getElem?_set, if_neg ij]; exact h, rep_sub (fun x z => dm.m z) q⟩
  · by_cases ij : i = j
    · subst ij
      exact nomatch get_eq e'
    · rw [get_ne ij] at e'
      obtain ⟨g1, g2, g3⟩ := r.ow j d' e'
      exact ⟨by rw [List.getElem?_set, if_neg ij]; exact g1, own_sub (fun x z => dm.m z) g2, g3⟩
  · obtain ⟨d1', e1'⟩ := dm j d1 e1
    obtain ⟨d2', e2'⟩ := dm k d2 e2
    exact r.di j k _ _ e1' e2'
  · by_cases ij : i = j
    · subst ij
      exact nomatch get_eq e'
    · rw [get_ne ij] at e'
      obtain ⟨b, c, h1, h2⟩ := r.bs j e'
      exact ⟨b, c, h1, by rw [List.getElem?_set, if_neg ij]; exact h2⟩
theorem lg_name {i : Nat} : LG K (gName i) (gN i) := ⟨fun C A σ H s v d P Q r rp p q => q _ _ p (r.setFz rp) (dem_set fun _ z => nomatch z)⟩
theorem lgs_nil : LGs K gNil gsNil := ⟨fun C A σ H s vs ds P Q r rp ⟨e, p⟩ q => by
  subst e
  cases rp
  exact ⟨rfl, q σ s p r .refl⟩⟩
theorem lgs_cons {tg : TG} {tgs : TGs} {g : FG} {gs : FGs} (h : LG K tg g) (hs : LGs K tgs gs) : LGs K (gCons tg tgs) (gsCons g gs) := ⟨fun C A σ H s vs ds P Q r rp ⟨d, ds', e, p⟩ q => by
  subst e
  cases rp with
  | cons a b =>
    refine ⟨_, _, rfl, h.run C A σ H s _ d _ _ r a p fun σ1 s1 p1 r1 dm => ?_⟩
    exact hs.run C A σ1 H s1 _ ds' _ _ r1 (repA_sub (fun x z => dm.m z) b) p1 fun σ2 s2 p2 r2 dm2 => q σ2 s2 p2 r2 (dm.trans dm2)⟩
theorem lg_tup {n : Nat} {tgs : TGs} {gs : FGs} (hs : LGs K tgs gs) : LG K (gTup K n tgs) (gT n gs) := ⟨fun C A σ H s v d P Q r rp ⟨ds, e, hn, p⟩ q => by
  subst e
  cases rp with
  | tup h b => exact ⟨_, _, rfl, h.sqt, by rw [b.len]; exact hn, hs.run C A σ H s _ ds _ _ r b p q⟩⟩
def vSeq (g h : FS) : FS := fun s E => g s { E with nx := fun s1 => h s1 E }
def vCut (g h : FS) : FS := fun s E => ∃ Mid : VS → Prop, g s { E with nx := Mid } ∧ ∀ s', Mid s' → h s' E
def vPass : FS := fun s E => E.nx s
def vIf (f : FT) (g h : FS) : FS := fun s E => f s fun b s1 => if b = true then g s1 E else h s1 E
def vRet (f : FE) : FS := fun s E => f s E.rt
def vRetN : FS := fun s E => E.rt (.none, false) s
def vBrk : FS := fun s E => E.bk s
def vCnt : FS := fun s E => E.ct s
def vDrop (f : FE) : FS := fun s E => f s fun _ s1 => E.nx s1
def vAsg (f : FE) (i : Nat) : FS := fun s E => f s fun r s1 => E.nx (s1.set i (if r.2 = true then .ow r.1 else .fz r.1))
def vAsgG (f : FE) (g : FG) : FS := fun s E => f s fun r s1 => g r.1 s1 E.nx
theorem ls_pass : LS K tNext vPass := ⟨fun C A σ H s E D r g hn hr hb hc => hn A σ H s g r .refl⟩
theorem ls_brk : LS K tBreak vBrk := ⟨fun C A σ H s E D r g hn hr hb hc => hb A σ H s g r .refl⟩
theorem ls_cnt : LS K tCont vCnt := ⟨fun C A σ H s E D r g hn hr hb hc => hc A σ H s g r .refl⟩
theorem ls_retN : LS K tRetN vRetN := ⟨fun C A σ H s E D r g hn hr hb hc => hr A σ H s _ _ g ⟨r, .non⟩ rfl⟩
theorem ls_ret {te : TE} {f : FE} (h : LE K te f) : LS K (tRet te) (vRet f) := ⟨fun C A σ H s E D r g hn hr hb hc => h.run C A σ H s _ _ r g fun H' v x s' p o => hr A σ H' s' v x p o.er rfl⟩
theorem ls_drop {te : TE} {f : FE} (h : LE K te f) : LS K (tDrop te) (vDrop f) := ⟨fun C A σ H s E D r g hn hr hb hc => h.run C A σ H s _ _ r g fun H' v x s' p o => hn A σ H' s' p o.er.fz.1 (.of_fr o.fr o.dm)⟩
theorem ls_seq {t u : TS} {g h : FS} (h1 : LS K t g) (h2 : LS K u h) : LS K (tSeq t u) (vSeq g h) := ⟨fun C A σ H s E D r p hn hr hb hc => by
  refine h1.run C A σ H s _ _ r p (fun A1 σ1 H1 s1 p1 r1 f1 => ?_) hr hb hc
  refine h2.run C A1 σ1 H1 s1 _ _ r1 p1 (fun A2 σ2 H2 s2 p2 r2 f2 => hn A2 σ2 H2 s2 p2 r2 (f1.trans f2)) (fun A2 σ2 H2 s2 v x p2 er e2 => hr A2 σ2 H2 s2 v x p2 er ?_) (fun A2 σ2 H2 s2 p2 r2 f2 => hb A2 σ2 H2 s2 p2 r2 (f1.trans f2)) fun A2 σ2 H2 s2 p2 r2 f2 => hc A2 σ2 H2 s2 p2 r2 (f1.trans f2)
  exact e2.trans f1.bc⟩
theorem ls_cut {t u : TS} {g h : FS} (h1 : LS K t g) (h2 : LS K u h) : LS K (C8.tCut t u) (vCut g h) := ⟨fun C A σ H s E D r ⟨Mid, p, q⟩ hn hr hb hc => by
  refine ⟨fun σ' H' => ∃ A' s', Mid s' ∧ R K C A' σ' H' s' ∧ SFr C A s H A' s' H', ?_, ?_⟩
  · exact h1.run C A σ H s _ _ r p (fun A1 σ1 H1 s1 p1 r1 f1 => ⟨A1, s1, p1, r1, f1⟩) hr hb hc
  · rintro σ1 H1 ⟨A1, s1, p1, r1, f1⟩
    refine h2.run C A1 σ1 H1 s1 _ _ r1 (q _ p1) (fun A2 σ2 H2 s2 p2 r2 f2 => hn A2 σ2 H2 s2 p2 r2 (f1.trans f2)) (fun A2 σ2 H2 s2 v x p2 er e2 => hr A2 σ2 H2 s2 v x p2 er ?_) (fun A2 σ2 H2 s2 p2 r2 f2 => hb A2 σ2 H2 s2 p2 r2 (f1.trans f2)) fun A2 σ2 H2 s2 p2 r2 f2 => hc A2 σ2 H2 s2 p2 r2 (f1.trans f2)
    exact e2.trans f1.bc⟩
theorem ls_if {c : TT} {t u : TS} {f : FT} {g h : FS} (h0 : LT K c f) (h1 : LS K t g) (h2 : LS K u h) : LS K (tIfS c t u) (vIf f g h) := ⟨fun C A σ H s E D r p hn hr hb hc => by
  refine h0.run C A σ H s _ _ r p fun H1 b s1 p1 r1 fr dm => ?_
  have f1 : SFr C A s H A s1 H1 := .of_fr fr dm
  cases b with
  | true => exact iteT (h1.run C A σ H1 s1 _ _ r1 (by simpa using p1) (fun A2 σ2 H2 s2 p2 r2 f2 => hn A2 σ2 H2 s2 p2 r2 (f1.trans f2)) hr (fun A2 σ2 H2 s2 p2 r2 f2 => hb A2 σ2 H2 s2 p2 r2 (f1.trans f2)) fun A2 σ2 H2 s2 p2 r2 f2 => hc A2 σ2 H2 s2 p2 r2 (f1.trans f2))
  | false => exact iteF (h2.run C A σ H1 s1 _ _ r1 (by simpa using p1) (fun A2 σ2 H2 s2 p2 r2 f2 => hn A2 σ2 H2 s2 p2 r2 (f1.trans f2)) hr (fun A2 σ2 H2 s2 p2 r2 f2 => hb A2 σ2 H2 s2 p2 r2 (f1.trans f2)) fun A2 σ2 H2 s2 p2 r2 f2 => hc A2 σ2 H2 s2 p2 r2 (f1.trans f2))⟩
/-- a slot gets a new list or dict of its own -/
theorem R.setOw {i : Nat} (r : R K (C.add a) A σ H s) (h0 : C.H0 a = none) (n : ¬ C.N a) (ow : Own K (M (C.add a) A s) H d a) :
    R K C ⟨fun j => if j = i then a else A.ad j, A.bc⟩ (σ.set i (some (.ref a))) H (s.set i (.ow d)) ∧ ∀ x, M C ⟨fun j => if j = i then a else A.ad j, A.bc⟩ (s.set i (.ow d)) x → M (C.add a) A s x := by
  have sub : ∀ x, M C ⟨fun j => if j = i then a else A.ad j, A.bc⟩ (s.set i (.ow d)) x → M (C.add a) A s x := by
    rintro x (h | h | ⟨j, d', e, q⟩)
    · exact .inl (.inl h)
    · exact .inr (.inl h)
    · by_cases ij : i = j
      · subst ij
        exact .inl (.inr (by simpa using q.symm))
      · rw [get_ne ij] at e
        refine .inr (.inr ⟨j, d', e, ?_⟩)
        simpa [show ¬ j = i from fun z => ij z.symm] using q
  refine ⟨⟨fun b z => r.nn b (.inl z), r.fr, fun b c q => ?_, fun j d' e' => ?_, fun j d' e' => ?_, fun j k d1 d2 e1 e2 q => ?_, fun j e' => ?_, by rw [List.length_set, List.length_set]; exact r.ln⟩, sub⟩
  · obtain ⟨g, g1, g2⟩ := r.bg b c q
    exact ⟨g, fun z => g1 (.inl z), fun z => g2 (.inl z)⟩
  · by_cases ij : i = j
    · subst ij
      exact nomatch get_eq e'
    · rw [get_ne ij] at e'
      obtain ⟨w, h, q⟩ := r.fz j d' e'
      exact ⟨w, by rw [List.getElem?_set, if_neg ij]; exact h, rep_sub sub q⟩
  · by_cases ij : i = j
    · subst ij
      have hi : i < s.length := by
        rw [List.getElem?_set, if_pos rfl] at e'
        split at e'
        · assumption
        · cases e'
      cases get_eq e'
      refine ⟨by rw [List.getElem?_set, if_pos rfl, if_pos (by rw [r.ln]; exact hi)]; simp, by simpa using own_sub sub ow, by simpa using h0, by simpa using n, ?_⟩
      rintro ⟨b, c, q, z⟩
      obtain ⟨_, g1, g2⟩ := r.bg b c q
      simp at z
      rcases z with z | z
      · exact g1 (.inr z.symm)
      · exact g2 (.inr z.symm)
    · rw [get_ne ij] at e'
      obtain ⟨g1, g2, g3, g4, g5⟩ := r.ow j d' e'
      have ji : ¬ j = i := fun z => ij z.symm
      refine ⟨by rw [List.getElem?_set, if_neg ij]; simpa [ji] using g1, by simpa [ji] using own_sub sub g2, by have : C.H0 (A.ad j) = none := g3; simpa [ji] using this, by simpa [ji] using fun z => g4 (.inl z), ?_⟩
      have : ¬ isB A (A.ad j) := g5
      simp only [ji, if_false]; exact this
  · by_cases ij : i = j
    · by_cases ik : i = k
      · rw [← ij, ← ik]
      · rw [get_ne ik] at e2
        obtain ⟨_, _, _, g4, _⟩ := r.ow k d2 e2
        have ki : ¬ k = i := fun z => ik z.symm
        simp [← ij, ki] at q
        exact absurd (.inr q.symm) g4
    · by_cases ik : i = k
      · rw [get_ne ij] at e1
        obtain ⟨_, _, _, g4, _⟩ := r.ow j d1 e1
        have ji : ¬ j = i := fun z => ij z.symm
        simp [← ik, ji] at q
        exact absurd (.inr q) g4
      · rw [get_ne ij] at e1
        rw [get_ne ik] at e2
        have ji : ¬ j = i := fun z => ij z.symm
        have ki : ¬ k = i := fun z => ik z.symm
        simp [ji, ki] at q
        exact r.di j k _ _ e1 e2 q
  · by_cases ij : i = j
    · subst ij
      exact nomatch get_eq e'
    · rw [get_ne ij] at e'
      obtain ⟨b, c, h1, h2⟩ := r.bs j e'
      exact ⟨b, c, h1, by rw [List.getElem?_set, if_neg ij]; exact h2⟩
theorem ls_asg {te : TE} {f : FE} {i : Nat} (h : LE K te f) : LS K (tAsg te (gName i)) (vAsg f i) := ⟨fun C A σ H s E D r g hn hr hb hc => h.run C A σ H s _ _ r g fun H' v x s' p o => by
  obtain ⟨fr, dm, er, nw⟩ := o
  obtain ⟨d, b⟩ := x
  cases b with
  | false =>
    obtain ⟨r', rp⟩ := er
    exact hn A _ H' _ p (r'.setFz rp) (.of_fr fr (dm.trans (dem_set fun _ z => nomatch z)))
  | true =>
    obtain ⟨a, rfl, h0, n, r', ow⟩ := er
    obtain ⟨r2, sub⟩ := r'.setOw (i := i) h0 n ow
    refine hn _ _ H' _ p r2 ⟨fun x o e m => ⟨fr.go x o e m, fun z => ?_⟩, fr.2, rfl⟩
    have z := sub x z
    rw [M_add] at z
    rcases z with z | z
    · exact m (dm.m z)
    · subst z
      rcases nw _ rfl rfl with y | y
      · rw [e] at y; cases y
      · exact m y⟩
def forV (g : FG) (body : FS) (E : VEnds) : List PyData → VS → Prop
  | [], s => E.nx s
  | d :: ds, s => g d s fun s1 => body s1 { nx := forV g body E ds, rt := E.rt, bk := E.nx, ct := forV g body E ds }
def vFor (fi : FI) (g : FG) (body : FS) : FS := fun s E => fi s fun ds s1 => forV g body E ds s1
theorem ls_for {wi : TI} {tg : TG} {tb : TS} {fi : FI} {g : FG} {body : FS} (hi : LI K wi fi) (hg : LG K tg g) (hb : LS K tb body) : LS K (tFor wi tg tb) (vFor fi g body) := ⟨fun C A σ H s E D r p hn hr hbk hc => by
  refine hi.run C A σ H s _ _ r p fun H1 J ds s1 p1 r1 fr dm it => ?_
  have f1 : SFr C A s H A s1 H1 := .of_fr fr dm
  refine ⟨fun i m σ' H' => m = ds.length - i ∧ i ≤ ds.length ∧ ∃ A' s', R K C A' σ' H' s' ∧ SFr C A s1 H1 A' s' H' ∧ forV g body E (ds.drop i) s', ⟨_, rfl, Nat.zero_le _, A, s1, r1, .refl, by simpa using p1⟩, ?_⟩
  rintro i m σ' H' ⟨rfl, hi, A', s', r', f', q⟩
  obtain ⟨st, go⟩ := it (M C A' s') H' f'.fz f'.tp
  by_cases hlt : i < ds.length
  · have e := List.getElem?_eq_getElem hlt
    obtain ⟨g1, y1⟩ := go i _ e
    rw [List.drop_eq_getElem_cons hlt] at q
    refine .inr ⟨g1, fun σ2 H2 => ∃ A2 s2, R K C A2 σ2 H2 s2 ∧ SFr C A s1 H1 A2 s2 H2 ∧ forV g body E (ds.drop (i + 1)) s2, ?_, ?_⟩
    · rintro σ2 H2 ⟨A2, s2, r2, f2, q2⟩
      exact ⟨_, by omega, rfl, hlt, A2, s2, r2, f2, q2⟩
    · intro x H'' y
      obtain ⟨sm, rp⟩ := y1 x H'' y
      have f'' : SFr C A' s' H' A' s' H'' := .of_fr (.of_same sm) .refl
      refine hg.run C A' σ' H'' s' x _ _ _ (r'.same sm) rp q fun σ2 s2 q2 r2 dm2 => ?_
      have f2 : SFr C A' s' H' A' s2 H'' := f''.trans (.of_fr .refl dm2)
      refine hb.run C A' σ2 H'' s2 _ _ r2 q2 (fun A3 σ3 H3 s3 p3 r3 f3 => ⟨A3, s3, r3, (f'.trans f2).trans f3, p3⟩) (fun A3 σ3 H3 s3 v x p3 er e3 => hr A3 σ3 H3 s3 v x p3 er ?_)
        (fun A3 σ3 H3 s3 p3 r3 f3 => hn A3 σ3 H3 s3 p3 r3 (f1.trans ((f'.trans f2).trans f3))) (fun A3 σ3 H3 s3 p3 r3 f3 => ⟨A3, s3, r3, (f'.trans f2).trans f3, p3⟩)
      exact e3.trans f'.bc
  · have : i = ds.length := by omega
    subst this
    rw [List.drop_length] at q
    exact .inl ⟨st, hn A' σ' H' s' q r' (f1.trans f')⟩⟩
def whV (f : FT) (body : FS) (E : VEnds) : Nat → VS → Prop
  | 0, _ => False
  | n + 1, s => f s fun b s1 => if b = true then body s1 { nx := whV f body E n, rt := E.rt, bk := E.nx, ct := whV f body E n } else E.nx s1
def vWhile (f : FT) (body : FS) : FS := fun s E => ∃ n, whV f body E n s
theorem ls_while {tc : TT} {tb : TS} {f : FT} {body : FS} (h0 : LT K tc f) (hb : LS K tb body) : LS K (tWhile tc tb) (vWhile f body) := ⟨fun C A σ H s E D r ⟨n, p⟩ hn hr hbk hc => by
  refine ⟨fun m σ' H' => ∃ A' s', R K C A' σ' H' s' ∧ SFr C A s H A' s' H' ∧ whV f body E m s', ⟨n, A, s, r, .refl, p⟩, ?_⟩
  rintro m σ' H' ⟨A', s', r', f', q⟩
  cases m with
  | zero => exact q.elim
  | succ m =>
    refine h0.run C A' σ' H' s' _ _ r' q fun H1 b s1 p1 r1 fr dm => ?_
    have f1 := f'.trans (.of_fr fr dm)
    cases b with
    | false => exact iteF (hn A' σ' H1 s1 (by simpa using p1) r1 f1)
    | true =>
      refine iteT ⟨fun σ2 H2 => ∃ A2 s2, R K C A2 σ2 H2 s2 ∧ SFr C A s H A2 s2 H2 ∧ whV f body E m s2, ?_, ?_⟩
      · rintro σ2 H2 ⟨A2, s2, r2, f2, q2⟩
        exact ⟨m, by omega, A2, s2, r2, f2, q2⟩
      · rw [if_pos rfl] at p1
        refine hb.run C A' σ' H1 s1 _ _ r1 p1 (fun A3 σ3 H3 s3 p3 r3 f3 => ⟨A3, s3, r3, f1.trans f3, p3⟩) (fun A3 σ3 H3 s3 v x p3 er e3 => hr A3 σ3 H3 s3 v x p3 er ?_)
          (fun A3 σ3 H3 s3 p3 r3 f3 => hn A3 σ3 H3 s3 p3 r3 (f1.trans f3)) (fun A3 σ3 H3 s3 p3 r3 f3 => ⟨A3, s3, r3, f1.trans f3, p3⟩)
        exact e3.trans f'.bc⟩
def wipeV (s : VS) : List Nat → VS
  | [] => s
  | v :: vs => (wipeV s vs).set v .no
theorem wipeV_len : ∀ vs, (wipeV s vs).length = s.length
  | [] => rfl
  | v :: vs => by unfold wipeV; rw [List.length_set, wipeV_len vs]
theorem wipeV_ne {i : Nat} : ∀ {vs}, i ∉ vs → (wipeV s vs)[i]? = s[i]?
  | [], _ => rfl
  | v :: vs, h => by
    unfold wipeV
    rw [List.getElem?_set, if_neg (fun z => h (by rw [z]; exact List.mem_cons_self)), wipeV_ne fun z => h (List.mem_cons_of_mem _ z)]
theorem wipeV_mem {i : Nat} {x : Sl} : ∀ {vs}, i ∈ vs → (wipeV s vs)[i]? = some x → x = .no
  | v :: vs, h, e => by
    unfold wipeV at e
    rw [List.getElem?_set] at e
    split at e
    · split at e
      · cases e; rfl
      · cases e
    · rename_i ne
      exact wipeV_mem ((List.mem_cons.mp h).resolve_left fun z => ne z.symm) e
theorem wipe_ne {i : Nat} : ∀ {vs : List Nat}, i ∉ vs → (wipe σ vs)[i]? = σ[i]?
  | [], _ => rfl
  | v :: vs, h => by
    unfold wipe
    rw [List.getElem?_set, if_neg (fun z => h (by rw [z]; exact List.mem_cons_self)), wipe_ne fun z => h (List.mem_cons_of_mem _ z)]
theorem wipe_mem {i : Nat} {x : Option V} : ∀ {vs : List Nat}, i ∈ vs → (wipe σ vs)[i]? = some x → x = none
  | v :: vs, h, e => by
    unfold wipe at e
    rw [List.getElem?_set] at e
    split at e
    · split at e
      · cases e; rfl
      · cases e
    · rename_i ne
      exact wipe_mem ((List.mem_cons.mp h).resolve_left fun z => ne z.symm) e
theorem wipeV_dem {vs : List Nat} : Dem s (wipeV s vs) := fun i d e => by
  by_cases h : i ∈ vs
  · exact nomatch wipeV_mem h e
  · rw [wipeV_ne h] at e; exact ⟨d, e⟩
/-- the block's own slots are as they were ahead of it, all others as they are behind it -/
def backV (s0 s : VS) : List Nat → VS
  | [] => s
  | v :: vs => (backV s0 s vs).set v (match s0[v]? with | some (.fz d) => .fz d | _ => .no)
theorem backV_len {s0 : VS} : ∀ vs, (backV s0 s vs).length = s.length
  | [] => rfl
  | v :: vs => by unfold backV; rw [List.length_set, backV_len vs]
theorem backV_ne {s0 : VS} {i : Nat} : ∀ {vs}, i ∉ vs → (backV s0 s vs)[i]? = s[i]?
  | [], _ => rfl
  | v :: vs, h => by
    unfold backV
    rw [List.getElem?_set, if_neg (fun z => h (by rw [z]; exact List.mem_cons_self)), backV_ne fun z => h (List.mem_cons_of_mem _ z)]
theorem backV_mem {s0 : VS} {i : Nat} {x : Sl} : ∀ {vs}, i ∈ vs → (backV s0 s vs)[i]? = some x → x = .no ∨ ∃ d, x = .fz d ∧ s0[i]? = some (.fz d)
  | v :: vs, h, e => by
    unfold backV at e
    rw [List.getElem?_set] at e
    split at e
    · rename_i q
      subst q
      split at e
      · cases e
        split
        · rename_i d q
          exact .inr ⟨d, rfl, q⟩
        · exact .inl rfl
      · cases e
    · rename_i ne
      exact backV_mem ((List.mem_cons.mp h).resolve_left fun z => ne z.symm) e
theorem R.wipe {vs : List Nat} (r : R K C A σ H s) : R K C A (wipe σ vs) H (wipeV s vs) where
  nn := r.nn
  fr := r.fr
  bg := r.bg
  fz := fun i d e => by
    by_cases h : i ∈ vs
    · exact nomatch wipeV_mem h e
    · rw [wipeV_ne h] at e
      obtain ⟨v, q, rp⟩ := r.fz i d e
      exact ⟨v, by rw [wipe_ne h]; exact q, rep_sub (fun x z => wipeV_dem.m z) rp⟩
  ow := fun i d e => by
    by_cases h : i ∈ vs
    · exact nomatch wipeV_mem h e
    · rw [wipeV_ne h] at e
      obtain ⟨g1, g2, g3⟩ := r.ow i d e
      exact ⟨by rw [wipe_ne h]; exact g1, own_sub (fun x z => wipeV_dem.m z) g2, g3⟩
  di := fun i j d1 d2 e1 e2 q => by
    obtain ⟨d1', e1'⟩ := wipeV_dem i d1 e1
    obtain ⟨d2', e2'⟩ := wipeV_dem j d2 e2
    exact r.di i j _ _ e1' e2' q
  bs := fun i e => by
    by_cases h : i ∈ vs
    · exact nomatch wipeV_mem h e
    · rw [wipeV_ne h] at e
      obtain ⟨b, c, q1, q2⟩ := r.bs i e
      exact ⟨b, c, q1, by rw [wipe_ne h]; exact q2⟩
  ln := by rw [wipe_length, wipeV_len]; exact r.ln
/-- a state behind a block, from the one ahead of it (r0) and the one within (r) -/
theorem R.back {vs : List Nat} {s0 : VS} (r : R K C A (L2.wipe σ vs) H (wipeV s vs)) (rf : ∀ (i : Nat) d, s0[i]? = some (Sl.fz d) → ∃ v, σ[i]? = some (some v) ∧ Rep K (M C A (wipeV s vs)) H v d) (dm : Dem s0 (wipeV s vs)) : R K C A σ H (backV s0 s vs) ∧ Dem s0 (backV s0 s vs) ∧ ∀ x, M C A (backV s0 s vs) x → M C A (wipeV s vs) x := by
  have ob : ∀ i d, (backV s0 s vs)[i]? = some (Sl.ow d) → i ∉ vs ∧ (wipeV s vs)[i]? = some (Sl.ow d) := fun i d e => by
    by_cases h : i ∈ vs
    · rcases backV_mem h e with z | ⟨d', z, _⟩ <;> cases z
    · rw [backV_ne h] at e
      exact ⟨h, by rw [wipeV_ne h]; exact e⟩
  have sub : ∀ x, M C A (backV s0 s vs) x → M C A (wipeV s vs) x := fun x z => by
    rcases z with z | z | ⟨i, d, e, q⟩
    · exact .inl z
    · exact .inr (.inl z)
    · exact .inr (.inr ⟨i, d, (ob i d e).2, q⟩)
  refine ⟨⟨r.nn, r.fr, r.bg, fun i d e => ?_, fun i d e => ?_, fun i j d1 d2 e1 e2 q => r.di i j _ _ (ob i d1 e1).2 (ob j d2 e2).2 q, fun i e => ?_, ?_⟩, fun i d e => dm i d (ob i d e).2, sub⟩
  · by_cases h : i ∈ vs
    · rcases backV_mem h e with z | ⟨d', z, e0⟩
      · cases z
      · cases z
        obtain ⟨v, q, rp⟩ := rf i d e0
        exact ⟨v, q, rep_sub sub rp⟩
    · rw [backV_ne h] at e
      obtain ⟨v, q, rp⟩ := r.fz i d (by rw [wipeV_ne h]; exact e)
      rw [wipe_ne h] at q
      exact ⟨v, q, rep_sub sub rp⟩
  · obtain ⟨h, e'⟩ := ob i d e
    obtain ⟨g1, g2, g3⟩ := r.ow i d e'
    rw [wipe_ne h] at g1
    exact ⟨g1, own_sub sub g2, g3⟩
  · by_cases h : i ∈ vs
    · rcases backV_mem h e with z | ⟨d', z, _⟩ <;> cases z
    · rw [backV_ne h] at e
      obtain ⟨b, c, q1, q2⟩ := r.bs i (by rw [wipeV_ne h]; exact e)
      rw [wipe_ne h] at q2
      exact ⟨b, c, q1, q2⟩
  · have := r.ln
    rw [wipe_length, wipeV_len] at this
    rw [backV_len]; exact this
def lcV (g : FG) (ft : FT) (fe : FE) (vs : List Nat) (P : List PyData → VS → Prop) : List PyData → List PyData → VS → Prop
  | [], acc, s => P acc s
  | d :: ds, acc, s => g d (wipeV s vs) fun s1 => ft s1 fun b s2 => if b = true then fe s2 fun r s3 => acc.length < sizeLine ∧ lcV g ft fe vs P ds (acc ++ [r.1]) s3 else lcV g ft fe vs P ds acc s2
def vLc (fi : FI) (g : FG) (ft : FT) (fe : FE) (vs : List Nat) : FE := fun s P => fi s fun ds s1 => lcV g ft fe vs (fun ys s' => P (.list ys, true) (backV s1 s' vs)) ds [] s1
/-- only the slots vs are stored -/
structure GIn (tg : TG) (vs : List Nat) : Prop where
  run : ∀ v σ σ0 H Q, L2.wipe σ vs = L2.wipe σ0 vs → tg v σ H Q → tg v σ H fun σ2 H2 => L2.wipe σ2 vs = L2.wipe σ0 vs ∧ Q σ2 H2
  mono : ∀ v σ H (Q Q' : L2.St → Hp → Prop), tg v σ H Q → (∀ σ' H', Q σ' H' → Q' σ' H') → tg v σ H Q'
structure GsIn (tg : TGs) (vs : List Nat) : Prop where
  run : ∀ v σ σ0 H Q, L2.wipe σ vs = L2.wipe σ0 vs → tg v σ H Q → tg v σ H fun σ2 H2 => L2.wipe σ2 vs = L2.wipe σ0 vs ∧ Q σ2 H2
  mono : ∀ v σ H (Q Q' : L2.St → Hp → Prop), tg v σ H Q → (∀ σ' H', Q σ' H' → Q' σ' H') → tg v σ H Q'
theorem wipe_set {i : Nat} {x : Option V} {vs : List Nat} (h : i ∈ vs) : L2.wipe (σ.set i x) vs = L2.wipe σ vs := by
  refine List.ext_getElem? fun j => ?_
  by_cases hj : j ∈ vs
  · by_cases hl : j < σ.length
    · have l1 : j < (L2.wipe (σ.set i x) vs).length := by rw [wipe_length, List.length_set]; exact hl
      have l2 : j < (L2.wipe σ vs).length := by rw [wipe_length]; exact hl
      rw [List.getElem?_eq_getElem l1, List.getElem?_eq_getElem l2]
      rw [wipe_mem hj (List.getElem?_eq_getElem l1), wipe_mem hj (List.getElem?_eq_getElem l2)]
    · rw [List.getElem?_eq_none (by rw [wipe_length, List.length_set]; omega), List.getElem?_eq_none (by rw [wipe_length]; omega)]
  · rw [wipe_ne hj, wipe_ne hj, List.getElem?_set, if_neg fun z => hj (by rw [← z]; exact h)]
theorem wipe_wipe {vs : List Nat} : L2.wipe (L2.wipe σ vs) vs = L2.wipe σ vs := by
  refine List.ext_getElem? fun j => ?_
  by_cases hj : j ∈ vs
  · by_cases hl : j < σ.length
    · have l1 : j < (L2.wipe (L2.wipe σ vs) vs).length := by rw [wipe_length, wipe_length]; exact hl
      have l2 : j < (L2.wipe σ vs).length := by rw [wipe_length]; exact hl
      rw [List.getElem?_eq_getElem l1, List.getElem?_eq_getElem l2]
      rw [wipe_mem hj (List.getElem?_eq_getElem l1), wipe_mem hj (List.getElem?_eq_getElem l2)]
    · rw [List.getElem?_eq_none (by rw [wipe_length, wipe_length]; omega), List.getElem?_eq_none (by rw [wipe_length]; omega)]
  · rw [wipe_ne hj]
theorem gin_name {i : Nat} {vs : List Nat} (h : i ∈ vs) : GIn (gName i) vs := ⟨fun v σ σ0 H Q e q => ⟨(wipe_set h).trans e, q⟩, fun v σ H Q Q' q f => f _ _ q⟩
theorem gin_nil {vs : List Nat} : GsIn gNil vs := ⟨fun v σ σ0 H Q e q => ⟨q.1, e, q.2⟩, fun v σ H Q Q' q f => ⟨q.1, f _ _ q.2⟩⟩
theorem gin_cons {tg : TG} {tgs : TGs} {vs : List Nat} (h : GIn tg vs) (hs : GsIn tgs vs) : GsIn (gCons tg tgs) vs :=
  ⟨fun v σ σ0 H Q e ⟨x, r, e1, q⟩ => ⟨x, r, e1, h.mono _ _ _ _ _ (h.run x σ σ0 H _ e q) fun σ1 H1 ⟨e2, q1⟩ => hs.run r σ1 σ0 H1 _ e2 q1⟩,
   fun v σ H Q Q' ⟨x, r, e1, q⟩ f => ⟨x, r, e1, h.mono _ _ _ _ _ q fun σ1 H1 q1 => hs.mono _ _ _ _ _ q1 f⟩⟩
theorem gin_tup {n : Nat} {tgs : TGs} {vs : List Nat} (hs : GsIn tgs vs) : GIn (gTup K n tgs) vs :=
  ⟨fun v σ σ0 H Q e ⟨a, xs, e1, h, hn, q⟩ => ⟨a, xs, e1, h, hn, hs.run _ _ _ _ _ e q⟩, fun v σ H Q Q' ⟨a, xs, e1, h, hn, q⟩ f => ⟨a, xs, e1, h, hn, hs.mono _ _ _ _ _ q f⟩⟩
/-- a thing that the frozen do not see is changed -/
theorem R.putN {o : HO} {xs : List V} (r : R K C A σ H s) (n : C.N a) (h0 : C.H0 a = none) (e : H a = some (.lst xs)) : R K C A σ (upd H a o) s := by
  have ht : ∀ b u, H b = some u → ¬ Mut (some u) → upd H a o b = some u := fun b u q m => by
    by_cases z : b = a
    · subst z; rw [e] at q; cases q; exact absurd trivial m
    · rw [upd_ne z]; exact q
  have hl : ∀ b u, H b = some u → ¬ M C A s b → upd H a o b = some u ∧ ¬ M C A s b := fun b u q m => by
    refine ⟨?_, m⟩
    rw [upd_ne fun z => m (.inl (by rw [z]; exact n))]; exact q
  refine ⟨fun b z => ?_, fun b u q m => ?_, fun b c q => ?_, fun i d q => ?_, fun i d q => ?_, r.di, r.bs, r.ln⟩
  · by_cases y : b = a
    · rw [y, upd_same]; exact fun z => nomatch z
    · rw [upd_ne y]; exact r.nn b z
  · rw [upd_ne fun z => by rw [z, h0] at q; cases q]; exact r.fr b u q m
  · obtain ⟨⟨cs, B⟩, g1, g2⟩ := r.bg b c q
    exact ⟨⟨cs, B.put (fun z => g1 (z ▸ n)) fun z => g2 (z ▸ n)⟩, g1, g2⟩
  · obtain ⟨v, q1, q2⟩ := r.fz i d q
    exact ⟨v, q1, Rep.go (fun _ _ e => sqt_of ht e) hl _ _ q2⟩
  · obtain ⟨g1, g2, g3, g4, g5⟩ := r.ow i d q
    refine ⟨g1, ⟨g2.1, Loose.go (fun _ _ e => sqt_of ht e) hl (fun b u y _ z => ?_) g2.2⟩, g3, g4, g5⟩
    cases y
    rw [upd_ne fun y => g4 (by rw [y]; exact n)]; exact z
theorem Fr.mut {o : HO} (x : Fr A s H H1) (n : H a = none) : Fr A s H (upd H1 a o) :=
  ⟨fun b u e n1 n2 => (upd_ne (ne_of_none e n)).trans (x.1 b u e n1 n2), fun b u e m => (upd_ne (ne_of_none e n)).trans (x.2 b u e m)⟩
theorem le_lc {wi : TI} {tg : TG} {tt : TT} {te : TE} {fi : FI} {g : FG} {ft : FT} {fe : FE} {vs : List Nat} (hi : LI K wi fi) (hg : LG K tg g) (hw : GIn tg vs) (ht : LT K tt ft) (he : LE K te fe) : LE K (tLc wi tg tt te vs) (vLc fi g ft fe vs) := ⟨fun C A σ H s P Q R0 p q => by
  refine hi.run C A σ H s _ _ R0 p fun H1 J ds s1 p1 r1 fr dm it => ?_
  intro D hD
  have nD : ¬ C.N D := fun z => r1.nn D z hD
  have h0D := r1.new0 hD
  refine ⟨fun i m H' => m = ds.length - i ∧ i ≤ ds.length ∧ ∃ s' acc ws, H' D = some (.lst ws) ∧ RepA K (M (C.add D) A (wipeV s' vs)) H' ws acc ∧ R K (C.add D) A (L2.wipe σ vs) H' (wipeV s' vs) ∧ Fr A s1 H1 H' ∧ Dem s1 (wipeV s' vs) ∧
    lcV g ft fe vs (fun ys s' => P (.list ys, true) (backV s1 s' vs)) (ds.drop i) acc s', ⟨_, rfl, Nat.zero_le _, s1, [], [], upd_same, .nil, (r1.add (same_upd hD) hD (by rw [upd_same]; exact fun z => nomatch z)).wipe, Fr.mut .refl hD, wipeV_dem, by simpa using p1⟩, ?_⟩
  rintro i m H' ⟨rfl, hi, s', acc, ws, eD, ra, r', f', dm', pl⟩
  have hN : ∀ a o, H1 a = some o → ¬ M C A s1 a → H' a = some o ∧ ¬ M (C.add D) A (wipeV s' vs) a := fun a o e n => ⟨f'.go a o e n, fun z => by
    rw [M_add] at z
    rcases z with z | z
    · exact n (dm'.m z)
    · rw [z, hD] at e; cases e⟩
  obtain ⟨st, go⟩ := it _ H' hN f'.2
  by_cases hlt : i < ds.length
  · have e := List.getElem?_eq_getElem hlt
    obtain ⟨g1, y1⟩ := go i _ e
    rw [List.drop_eq_getElem_cons hlt] at pl
    refine .inr ⟨g1, fun H2 => ∃ s' acc ws, H2 D = some (.lst ws) ∧ RepA K (M (C.add D) A (wipeV s' vs)) H2 ws acc ∧ R K (C.add D) A (L2.wipe σ vs) H2 (wipeV s' vs) ∧ Fr A s1 H1 H2 ∧ Dem s1 (wipeV s' vs) ∧
      lcV g ft fe vs (fun ys s' => P (.list ys, true) (backV s1 s' vs)) (ds.drop (i + 1)) acc s', ?_, ?_⟩
    · rintro H2 h
      exact ⟨_, by omega, rfl, hlt, h⟩
    · intro x H'' y
      obtain ⟨sm, rp⟩ := y1 x H'' y
      have eD2 := sm _ _ eD
      refine hw.mono _ _ _ _ _ (hw.run x _ σ H'' (fun σ2 H2 => ∃ s2, (ft s2 fun b s2 => if b = true then fe s2 fun r s3 => acc.length < sizeLine ∧ lcV g ft fe vs (fun ys s' => P (.list ys, true) (backV s1 s' vs)) (ds.drop (i + 1)) (acc ++ [r.1]) s3 else lcV g ft fe vs (fun ys s' => P (.list ys, true) (backV s1 s' vs)) (ds.drop (i + 1)) acc s2) ∧ R K (C.add D) A σ2 H2 s2 ∧ Dem (wipeV s' vs) s2 ∧ H2 = H'') wipe_wipe
        (hg.run (C.add D) A (L2.wipe σ vs) H'' (wipeV s' vs) x _ _ _ (r'.same sm) rp pl fun σ2 s2 p2 r2 dm2 => ⟨s2, p2, r2, dm2, rfl⟩)) ?_
      rintro σ2 H2 ⟨ew, s2, p2, r2, dm2, rfl⟩
      refine ⟨ew, ht.run (C.add D) A σ2 H2 s2 _ _ r2 p2 fun H3 b s3 p3 r3 fr3 dm3 => ?_⟩
      have F3 : Fr A s1 H1 H3 := (f'.trans dm' (.of_same sm)).trans (dm'.trans dm2) fr3
      have D3 := (dm'.trans dm2).trans dm3
      have eD3 : H3 D = some (.lst ws) := fr3.go (C := C) D _ eD2 (r2.off nD)
      have ra3 : RepA K (M (C.add D) A s3) H3 ws acc := repA_keep fr3 dm3 (repA_keep (C := C.add D) (.of_same (A := A) (s := wipeV s' vs) sm) dm2 ra)
      cases b with
      | false =>
        rw [if_neg Bool.false_ne_true] at p3
        refine iteF ⟨s3, acc, ws, eD3, repA_sub (fun x z => wipeV_dem.m z) ra3, ?_, F3, D3.trans wipeV_dem, p3⟩
        rw [← ew]; exact r3.wipe
      | true =>
        rw [if_pos rfl] at p3
        refine iteT (he.run (C.add D) A σ2 H3 s3 _ _ r3 p3 fun H4 y r s4 ⟨hl, p4⟩ o => ?_)
        obtain ⟨r4, rp4⟩ := o.er.fz
        have eD4 : H4 D = some (.lst ws) := o.fr.go (C := C) D _ eD3 (r3.off nD)
        refine ⟨ws, eD4, by rw [ra3.len]; exact hl, s4, _, _, upd_same, ?_, ?_, Fr.mut (F3.trans D3 o.fr) hD, (D3.trans o.dm).trans wipeV_dem, p4⟩
        · have ra4 : RepA K (M (C.add D) A s4) H4 (ws ++ [y]) (acc ++ [r.1]) := (repA_keep o.fr o.dm ra3).app (.cons rp4 .nil)
          refine RepA.go (fun _ _ e => sqt_of (fun b u q m => ?_) e) (fun b u q m => ⟨?_, fun z => m (wipeV_dem.m z)⟩) _ _ ra4
          · by_cases z : b = D
            · rw [z, eD4] at q; cases q; exact absurd trivial m
            · rw [upd_ne z]; exact q
          · rw [upd_ne fun z => m (.inl (.inr z))]; exact q
        · rw [← ew]
          exact (r4.putN (.inr rfl) h0D eD4).wipe
  · have : i = ds.length := by omega
    subst this
    rw [List.drop_length] at pl
    refine .inl ⟨st, q H' _ _ _ pl (.after fr dm ?_)⟩
    obtain ⟨b1, b2, b3⟩ := R.back (s0 := s1) r' (fun i d e => by
      obtain ⟨v, q1, q2⟩ := r1.fz i d e
      exact ⟨v, q1, Rep.go (fun _ _ e => sqt_of f'.2 e) hN _ _ q2⟩) dm'
    exact ⟨f', b2, ⟨D, rfl, h0D, nD, b1, rfl, _, _, rfl, eD, repA_sub b3 ra⟩, fun b _ e => by cases e; exact .inl hD⟩⟩
end
end EV
namespace EV
open PySem PySem.Spec PyProof.Rows L2 D0
mutual
def flatD : PyData → Bool
  | .list _ => false
  | .dict _ => false
  | .tuple ds => flatA ds
  | _ => true
def flatA : List PyData → Bool
  | [] => true
  | d :: ds => flatD d && flatA ds
end
section
variable {K : PySem.W.Frag} {C : VC} {A A' A1 A2 : Dy} {σ σ' : L2.St} {H H' H1 H2 : Hp} {s s' s1 s2 : VS} {v : V} {d : PyData} {a : Addr} {N N' : Addr → Prop}
mutual
theorem rep_flat : ∀ (d : PyData) (v : V), flatD d = true → Rep K N H v d → Rep K N' H v d
  | .none, _, _, h => by cases h; exact .non
  | .bool b, _, _, h => by cases h; exact .bl b
  | .int i, _, _, h => by cases h; exact .int i
  | .str x, _, _, h => by cases h; exact .str x
  | .list ds, _, c, h => by simp [flatD] at c
  | .dict es, _, c, h => by simp [flatD] at c
  | .tuple ds, _, c, h => by
    cases h with
    | tup e r => exact .tup e (repA_flat ds _ (by simpa [flatD] using c) r)
theorem repA_flat : ∀ (ds : List PyData) (vs : List V), flatA ds = true → RepA K N H vs ds → RepA K N' H vs ds
  | [], _, _, h => by cases h; exact .nil
  | d :: ds, _, c, h => by
    have c' : flatD d = true ∧ flatA ds = true := by simpa [flatA] using c
    cases h with
    | cons a b => exact .cons (rep_flat d _ c'.1 a) (repA_flat ds _ c'.2 b)
end
def valsA : List Bv → Option (List PyData)
  | [] => some []
  | .val d :: bs => match valsA bs with
    | some ds => some (d :: ds)
    | none => none
  | .slot _ :: _ => none
theorem repA_vals : ∀ {vs : List V} {bvs : List Bv} {ds : List PyData}, Paired (BR K C A σ H s) vs bvs → valsA bvs = some ds → RepA K (M C A s) H vs ds
  | _, _, _, .nil, e => by cases e; exact .nil
  | _, _, ds, .cons (b := b) (l₂ := bs) h t, e => by
    cases b with
    | slot i => cases e
    | val d =>
      unfold valsA at e
      split at e
      · rename_i ds' q
        cases e
        exact .cons h (repA_vals t q)
      · cases e
/-- what a callee that leaves nothing of it behind may see of the slots -/
def NV (C : VC) (A : Dy) (a : Addr) : Prop := C.N a ∨ isB A a
theorem rep_nv (r : R K C A σ H s) {bv : Bv} (h : BR K C A σ H s v bv) (e : rsv s bv = some d) : Rep K (NV C A) H v d := by
  have sub : ∀ x, NV C A x → M C A s x := fun x z => z.imp id .inl
  cases bv with
  | val d' => cases e; exact rep_sub sub h
  | slot i =>
    unfold rsv at e
    simp only at e
    split at e
    · rename_i d' q
      cases e
      obtain ⟨w, h1, h2⟩ := r.fz i _ q
      rw [show σ[i]? = some (some v) from h] at h1
      cases h1
      exact rep_sub sub h2
    · rename_i d' q
      cases e
      obtain ⟨h1, h2, h3, h4, h5⟩ := r.ow i _ q
      rw [show σ[i]? = some (some v) from h] at h1
      cases h1
      exact (own_sub sub h2).rep fun z => z.elim h4 h5
    · cases e
theorem repA_nv (r : R K C A σ H s) : ∀ {vs : List V} {bvs : List Bv} {ds : List PyData}, Paired (BR K C A σ H s) vs bvs → rsvA s bvs = some ds → RepA K (NV C A) H vs ds
  | _, _, _, .nil, e => by cases e; exact .nil
  | _, _, _, .cons (b := b) (l₂ := bs) h t, e => by
    unfold rsvA at e
    split at e
    · rename_i d ds q1 q2
      cases e
      exact .cons (rep_nv r h q1) (repA_nv r t q2)
    · cases e
/-- f(..): what is handed over is the callee's to share from then on -/
def vDef (sp : VSp) (fa : FA) : FE := fun s P => fa s fun xs s1 => ∃ ds, valsA xs = some ds ∧ sp ds fun r => P r s1
/-- f(..): an answer without lists, so what is handed over stays its owner's -/
def vDefF (sp : VSp) (fa : FA) : FE := fun s P => fa s fun xs s1 => ∃ ds, rsvA s1 xs = some ds ∧ sp ds fun r => r.2 = false ∧ flatD r.1 = true ∧ P r s1
theorem le_def {ta : TA} {fa : FA} {sp : VSp} {E : XK} (ha : LA K ta fa) : LE K (tCall (spV K sp) [] E ta) (vDef sp fa) := ⟨fun C A σ H s P Q R0 p q => by
  refine ha.run C A σ H s _ _ R0 p fun H1 vs bvs s1 ⟨ds, e, px⟩ R1 fr dm brs => ?_
  refine ⟨M C A s1, ds, _, R1.mok, by rw [List.append_nil]; exact repA_vals brs e, px, fun H2 w x kx o => q H2 w x s1 kx (.after fr dm (out_er R1 o))⟩⟩
theorem le_defF {ta : TA} {fa : FA} {sp : VSp} {E : XK} (ha : LA K ta fa) : LE K (tCall (spV K sp) [] E ta) (vDefF sp fa) := ⟨fun C A σ H s P Q R0 p q => by
  refine ha.run C A σ H s _ _ R0 p fun H1 vs bvs s1 ⟨ds, e, px⟩ R1 fr dm brs => ?_
  refine ⟨NV C A, ds, _, fun a z => R1.mok a (z.imp id .inl), by rw [List.append_nil]; exact repA_nv R1 brs e, px, fun H2 w x ⟨x2, fx, kx⟩ o => q H2 w x s1 kx (.after fr dm ?_)⟩
  obtain ⟨d, b⟩ := x
  cases x2
  exact .plain (.of_same o.1) .refl (R1.same o.1) (rep_flat _ _ fx o.2)⟩
theorem R.offB {b c : Addr} (r : R K C A σ H s) (hb : A.bc = some (b, c)) (x : Off b H H') (B' : ∃ cs, BagAt b c cs H') :
    (∀ a o, H a = some o → ¬ Mut (some o) → H' a = some o) ∧ Fr A s H H' ∧ R K C A σ H' s ∧ ∀ a, H a = none → H' a ≠ none → R K (C.add a) A σ H' s := by
  obtain ⟨⟨cs, i, z, sd, n, k, eb, nc, ec, _⟩, nb, nnc⟩ := r.bg b c hb
  have tp : ∀ a o, H a = some o → ¬ Mut (some o) → H' a = some o := fun a o e m => x a o (fun z => by rw [z, eb] at e; cases e; exact m trivial) e
  have hl : ∀ a o, H a = some o → ¬ M C A s a → H' a = some o ∧ ¬ M C A s a := fun a o e m => ⟨x a o (fun z => m (.inr (.inl ⟨b, c, hb, .inl z⟩))) e, m⟩
  have nn : ∀ a, H a ≠ none → H' a ≠ none := fun a h => by
    by_cases z : a = b
    · obtain ⟨_, i, z', sd, n, k, eb, _⟩ := B'
      rw [z, eb]; exact fun y => nomatch y
    · cases e : H a with
      | none => exact absurd e h
      | some o => rw [x a o z e]; exact fun y => nomatch y
  have ob : ∀ j d, s[j]? = some (Sl.ow d) → A.ad j ≠ b := fun j d e z => (r.ow j d e).2.2.2.2 ⟨b, c, hb, .inl z⟩
  have bgs : ∀ b' c', A.bc = some (b', c') → (∃ cs, BagAt b' c' cs H') := fun b' c' e => by
    rw [hb] at e; cases e; exact B'
  refine ⟨tp, ⟨fun a o e n1 n2 => x a o (fun z => n1 c (z ▸ hb)) e, tp⟩, ?_, fun a ha ha' => ?_⟩
  · refine ⟨fun a z => nn a (r.nn a z), fun a o e m => x a o (fun z => m c (z ▸ hb)) (r.fr a o e m), fun b' c' e => ⟨bgs b' c' e, (r.bg b' c' e).2⟩, fun j d e => ?_, fun j d e => ?_, r.di, r.bs, r.ln⟩
    · obtain ⟨v, q1, q2⟩ := r.fz j d e
      exact ⟨v, q1, Rep.go (fun _ _ e => sqt_of tp e) hl _ _ q2⟩
    · obtain ⟨g1, g2, g3, g4, g5⟩ := r.ow j d e
      exact ⟨g1, ⟨g2.1, Loose.go (fun _ _ e => sqt_of tp e) hl (fun y o q _ e' => by cases q; exact x _ _ (ob j d e) e') g2.2⟩, g3, g4, g5⟩
  · have hl2 : ∀ y o, H y = some o → ¬ M C A s y → H' y = some o ∧ ¬ M (C.add a) A s y := fun y o e m => ⟨(hl y o e m).1, fun z => by
      rw [M_add] at z
      rcases z with z | z
      · exact m z
      · rw [z, ha] at e; cases e⟩
    refine ⟨fun y z => z.elim (fun z => nn y (r.nn y z)) fun z => by rw [z]; exact ha', fun y o e m => x y o (fun z => m c (z ▸ hb)) (r.fr y o e m), fun b' c' e => ?_, fun j d e => ?_, fun j d e => ?_, r.di, r.bs, r.ln⟩
    · refine ⟨bgs b' c' e, fun z => z.elim (r.bg b' c' e).2.1 fun z => ?_, fun z => z.elim (r.bg b' c' e).2.2 fun z => ?_⟩
      · rw [hb] at e; cases e; rw [z, ha] at eb; cases eb
      · rw [hb] at e; cases e; rw [z, ha] at ec; cases ec
    · obtain ⟨v, q1, q2⟩ := r.fz j d e
      exact ⟨v, q1, Rep.go (fun _ _ e => sqt_of tp e) hl2 _ _ q2⟩
    · obtain ⟨g1, g2, g3, g4, g5⟩ := r.ow j d e
      refine ⟨g1, ⟨g2.1, Loose.go (fun _ _ e => sqt_of tp e) hl2 (fun y o q _ e' => by cases q; exact x _ _ (ob j d e) e') g2.2⟩, g3, fun z => z.elim g4 fun z => ?_, g5⟩
      obtain ⟨o, q, _⟩ := g2.ref_some
      rw [z, ha] at q; cases q
theorem M_bag {b c : Addr} (hb : A.bc = some (b, c)) : M C A s = fun x => (C.N x ∨ isO A s x) ∨ x = b ∨ x = c := by
  funext x
  apply propext
  constructor
  · rintro (h | ⟨b', c', e, h⟩ | h)
    · exact .inl (.inl h)
    · rw [hb] at e; cases e; exact .inr h
    · exact .inl (.inr h)
  · rintro ((h | h) | h)
    · exact .inl h
    · exact .inr (.inr h)
    · exact .inr (.inl ⟨b, c, hb, h⟩)
theorem outB_er {b c : Addr} (r : R K C A σ H s) (hb : A.bc = some (b, c)) {w : V} {x : PyData × Bool} (o : OutB K (fun x => C.N x ∨ isO A s x) b c H H' w x) : Pst K C A σ s H s H' w x := by
  obtain ⟨off, B', o⟩ := o
  obtain ⟨tp, fr, r', ra⟩ := r.offB hb off B'
  obtain ⟨d, f⟩ := x
  cases f with
  | false => exact .plain fr .refl r' (by rw [M_bag hb]; exact o)
  | true =>
    obtain ⟨a, rfl, n, ow⟩ := o
    obtain ⟨ob, q, _⟩ := ow.ref_some
    refine ⟨fr, .refl, ⟨a, rfl, r.new0 n, fun z => r.nn a z n, ra a n (by rw [q]; exact fun z => nomatch z), ?_⟩, fun b _ e => by cases e; exact .inl n⟩
    rw [M_add, M_bag hb]; exact ow
/-- f(bag, ..) -/
def vBag (sp : VSp) (i : Nat) (fa : FA) : FE := fun s P => s[i]? = some .bg ∧ fa s fun xs s1 => ∃ ds, valsA xs = some ds ∧ sp ds fun r => P r s1
theorem le_bag {ta : TA} {fa : FA} {sp : VSp} {E : XK} {i : Nat} (ha : LA K ta fa) : LE K (tCall (spB K sp) [] E (tCons (tVar i) ta)) (vBag sp i fa) := ⟨fun C A σ H s P Q R0 ⟨e0, p⟩ q => by
  obtain ⟨b, c, hb, hσ⟩ := R0.bs i e0
  refine ⟨_, hσ, ha.run C A σ H s _ _ R0 p fun H1 vs bvs s1 ⟨ds, e, px⟩ R1 fr dm brs => ?_⟩
  obtain ⟨B, nb, nc⟩ := R1.bg b c hb
  refine ⟨fun x => C.N x ∨ isO A s1 x, b, c, vs, ds, _, by rw [List.append_nil], fun a z => R1.mok a (z.imp id .inr), fun z => z.elim nb ?_, fun z => z.elim nc ?_, B, ?_, px, fun H2 w x kx o => q H2 w x s1 kx (.after fr dm (outB_er R1 hb o))⟩
  · rintro ⟨j, d, e, z⟩
    exact (R1.ow j d e).2.2.2.2 ⟨b, c, hb, .inl z⟩
  · rintro ⟨j, d, e, z⟩
    exact (R1.ow j d e).2.2.2.2 ⟨b, c, hb, .inr z⟩
  · have := repA_vals brs e
    rw [M_bag hb] at this; exact this⟩
/-- the draws: of 0 .. m-1 -/
def spDrawV : VSp := fun ds k => ∃ m, ds = [.int m] ∧ 0 < m ∧ m < 2 ^ 1000 ∧ ∀ r, 0 ≤ r → r < m → k (.int r, false)
theorem spDraw_of {vs : List V} {Q : VK} {E : XK} (h : spB K spDrawV vs H Q E) : spDraw vs H Q E := by
  obtain ⟨N, b, c, us, ds, k, rfl, nok, nb, nc, ⟨cs, B⟩, ra, ⟨m, rfl, h1, h2, kk⟩, q⟩ := h
  cases ra with
  | cons x y =>
    cases x
    cases y
    exact ⟨b, c, cs, m, rfl, h1, h2, B, fun H' r o B' r0 r1 => q H' (.int r) _ (kk r r0 r1) ⟨o, ⟨cs, B'⟩, .int r⟩⟩
theorem start_get {N : List Str} {vs : List V} {ds : List PyData} {H0 : Hp} {P : Addr → Prop} (ra : RepA K P H0 vs ds) (n : Nat) {i : Nat} {d : PyData} (e : (ds.map Sl.fz ++ List.replicate n Sl.no)[i]? = some (.fz d)) : ∃ v, (L2.start N vs)[i]? = some (some v) ∧ Rep K P H0 v d := by
  have hl := ra.len
  by_cases h : i < ds.length
  · rw [List.getElem?_append_left (by simpa using h), List.getElem?_map] at e
    obtain ⟨d', e', q⟩ := Option.map_eq_some_iff.mp e
    cases q
    obtain ⟨v, ev, rv⟩ := ra.get e'
    refine ⟨v, ?_, rv⟩
    unfold L2.start
    rw [List.getElem?_append_left (by simp; omega), List.getElem?_map, ev]; rfl
  · rw [List.getElem?_append_right (by simpa using h), List.getElem?_replicate] at e
    split at e <;> cases e
theorem start_no {ds : List PyData} {n i : Nat} {x : Sl} (e : (ds.map Sl.fz ++ List.replicate n Sl.no)[i]? = some x) : x = .no ∨ ∃ d, x = .fz d := by
  by_cases h : i < ds.length
  · rw [List.getElem?_append_left (by simpa using h), List.getElem?_map] at e
    obtain ⟨d', e', q⟩ := Option.map_eq_some_iff.mp e
    exact .inr ⟨_, q.symm⟩
  · rw [List.getElem?_append_right (by simpa using h), List.getElem?_replicate] at e
    split at e <;> cases e
    exact .inl rfl
theorem run_V {ts : TS} {g : FS} {sp : VSp} {nm : List Str} (L : LS K ts g)
    (hs : ∀ ds k, sp ds k → ds.length ≤ nm.length ∧ g (ds.map Sl.fz ++ List.replicate (nm.length - ds.length) Sl.no) { nx := fun _ => k (.none, false), rt := fun r _ => k r }) {vs : List V} {H : Hp} {Q : VK} {E : XK} (h : spV K sp vs H Q E) :
    ts { nx := fun _ H' => Q .non H', rt := Q } (L2.start nm vs) H := by
  obtain ⟨N, ds, k, nok, ra, hsp, q⟩ := h
  obtain ⟨hl, hg⟩ := hs ds k hsp
  have hM : ∀ x, M ⟨N, H⟩ ⟨fun _ => 0, none⟩ (ds.map Sl.fz ++ List.replicate (nm.length - ds.length) Sl.no) x → N x := by
    rintro x (z | ⟨b, c, z, _⟩ | ⟨i, d, e, _⟩)
    · exact z
    · cases z
    · rcases start_no e with y | ⟨_, y⟩ <;> cases y
  have fin : ∀ (A' : Dy) (σ' : L2.St) (H' : Hp) (s' : VS) v r, k r → ER K ⟨N, H⟩ A' σ' H' s' v r → A'.bc = none → Q v H' := by
    intro A' σ' H' s' v r kr er hb
    refine q H' v r kr ?_
    obtain ⟨d, b⟩ := r
    cases b with
    | false =>
      obtain ⟨r', rp⟩ := er
      exact ⟨fun a o e => r'.fr a o e (fun c z => by rw [hb] at z; cases z), rep_sub (fun x z => .inl z) rp⟩
    | true =>
      obtain ⟨a, rfl, h0, nn, r', ow⟩ := er
      exact ⟨fun a o e => r'.fr a o e (fun c z => by rw [hb] at z; cases z), a, rfl, h0, own_sub (fun x z => .inl z) ow⟩
  refine L.run ⟨N, H⟩ ⟨fun _ => 0, none⟩ (L2.start nm vs) H _ _ _ ⟨nok, fun a o e _ => e, (fun b c z => nomatch z), fun i d e => ?_, fun i d e => ?_, fun i j d1 d2 e1 e2 => ?_, fun i e => ?_, ?_⟩ hg
    (fun A' σ' H' s' p r f => fin A' σ' H' s' .non _ p ⟨r, .non⟩ f.bc) (fun A' σ' H' s' v r p er hb => fin A' σ' H' s' v r p er hb) (fun _ _ _ _ z => z.elim) (fun _ _ _ _ z => z.elim)
  · obtain ⟨v, e1, rp⟩ := start_get (N := nm) ra _ e
    exact ⟨v, e1, rep_sub hM rp⟩
  · rcases start_no e with y | ⟨_, y⟩ <;> cases y
  · rcases start_no e1 with y | ⟨_, y⟩ <;> cases y
  · rcases start_no e with y | ⟨_, y⟩ <;> cases y
  · unfold L2.start
    rw [List.length_append, List.length_append, List.length_map, List.length_map, List.length_replicate, List.length_replicate, ra.len]
theorem run_B {ts : TS} {g : FS} {sp : VSp} {nm : List Str} (L : LS K ts g)
    (hs : ∀ ds k, sp ds k → ds.length + 1 ≤ nm.length ∧ g (.bg :: (ds.map Sl.fz ++ List.replicate (nm.length - (ds.length + 1)) Sl.no)) { nx := fun _ => k (.none, false), rt := fun r _ => k r }) {vs : List V} {H : Hp} {Q : VK} {E : XK} (h : spB K sp vs H Q E) :
    ts { nx := fun _ H' => Q .non H', rt := Q } (L2.start nm vs) H := by
  obtain ⟨N, b, c, us, ds, k, rfl, nok, nb, nc, ⟨cs, B⟩, ra, hsp, q⟩ := h
  obtain ⟨hl, hg⟩ := hs ds k hsp
  have hM : ∀ x, M ⟨N, H⟩ ⟨fun _ => 0, some (b, c)⟩ (.bg :: (ds.map Sl.fz ++ List.replicate (nm.length - (ds.length + 1)) Sl.no)) x → N x ∨ x = b ∨ x = c := by
    rintro x (z | ⟨b', c', z, y⟩ | ⟨i, d, e, _⟩)
    · exact .inl z
    · cases z; exact .inr y
    · cases i with
      | zero => cases e
      | succ i => rcases start_no (by simpa using e) with y | ⟨_, y⟩ <;> cases y
  have hM' : ∀ (A' : Dy) s' x, A'.bc = some (b, c) → N x ∨ x = b ∨ x = c → M ⟨N, H⟩ A' s' x := fun A' s' x e z => by
    rcases z with z | z
    · exact .inl z
    · exact .inr (.inl ⟨b, c, e, z⟩)
  have fin : ∀ (A' : Dy) (σ' : L2.St) (H' : Hp) (s' : VS) v r, k r → ER K ⟨N, H⟩ A' σ' H' s' v r → A'.bc = some (b, c) → Q v H' := by
    intro A' σ' H' s' v r kr er hb
    refine q H' v r kr ?_
    have off : ∀ {C : VC}, C.H0 = H → R K C A' σ' H' s' → Off b H H' := fun e r' a o ne e' => r'.fr a o (by rw [e]; exact e') fun c' z => by rw [hb] at z; cases z; exact ne rfl
    obtain ⟨d, f⟩ := r
    cases f with
    | false =>
      obtain ⟨r', rp⟩ := er
      exact ⟨off rfl r', (r'.bg b c hb).1, rep_sub (fun x z => hM' _ _ x hb z) rp⟩
    | true =>
      obtain ⟨a, rfl, h0, nn, r', ow⟩ := er
      refine ⟨off rfl r', (r'.bg b c hb).1, a, rfl, h0, own_sub (fun x z => ?_) ow⟩
      rw [M_add]
      exact z.imp (fun z => hM' _ _ x hb z) id
  refine L.run ⟨N, H⟩ ⟨fun _ => 0, some (b, c)⟩ (L2.start nm (.ref b :: us)) H _ _ _ ⟨nok, fun a o e _ => e, (fun b' c' z => by cases z; exact ⟨⟨cs, B⟩, nb, nc⟩), fun i d e => ?_, fun i d e => ?_, fun i j d1 d2 e1 e2 => ?_, fun i e => ?_, ?_⟩ hg
    (fun A' σ' H' s' p r f => fin A' σ' H' s' .non _ p ⟨r, .non⟩ f.bc) (fun A' σ' H' s' v r p er hb => fin A' σ' H' s' v r p er hb) (fun _ _ _ _ z => z.elim) (fun _ _ _ _ z => z.elim)
  · cases i with
    | zero => cases e
    | succ i =>
      obtain ⟨v, e1, rp⟩ := start_get (N := nm.drop 1) ra _ (by simpa using e)
      refine ⟨v, ?_, rep_sub hM rp⟩
      unfold L2.start at e1 ⊢
      rw [List.map_cons, List.cons_append, List.getElem?_cons_succ, ← e1]
      congr 2
      simp; omega
  · cases i with
    | zero => cases e
    | succ i => rcases start_no (by simpa using e) with y | ⟨_, y⟩ <;> cases y
  · cases i with
    | zero => cases e1
    | succ i => rcases start_no (by simpa using e1) with y | ⟨_, y⟩ <;> cases y
  · cases i with
    | zero => exact ⟨b, c, rfl, rfl⟩
    | succ i => rcases start_no (by simpa using e) with y | ⟨_, y⟩ <;> cases y
  · have := ra.len
    unfold L2.start
    simp; omega
def valsOf (xs : List Bv) : Option (List PyData) := valsA xs
def MutL (K : PySem.W.Frag) (r : V → List V → Hp → VK → Prop) (f : List PyData → List PyData → (List PyData → PyData → Prop) → Prop) : Prop :=
  ∀ N H a vs ds ws es k Q, H a = some (.lst vs) → RepA K N H vs ds → RepA K N H ws es → f ds es k → (∀ w vs' ds' x, k ds' x → RepA K N H vs' ds' → Rep K N H w x → Q w (upd H a (.lst vs'))) → r (.ref a) ws H Q
def vMut (f : List PyData → List PyData → (List PyData → PyData → Prop) → Prop) (i : Nat) (fa : FA) : FE := fun s P => (∃ ds, s[i]? = some (.ow (.list ds))) ∧ fa s fun xs s1 => ∃ ds es, s1[i]? = some (.ow (.list ds)) ∧ valsA xs = some es ∧ f ds es fun ds' x => P (x, false) (s1.set i (.ow (.list ds')))
/-- an owned object is changed -/
theorem R.putO {i : Nat} {e d' : PyData} {o : HO} (r : R K C A σ H s) (hi : s[i]? = some (.ow e)) (ow : Own K (M C A s) (upd H (A.ad i) o) d' (A.ad i)) :
    R K C A σ (upd H (A.ad i) o) (s.set i (.ow d')) ∧ Fr A s H (upd H (A.ad i) o) ∧ Dem s (s.set i (.ow d')) ∧ (M C A (s.set i (.ow d')) = M C A s) ∧ ∀ v d, Rep K (M C A s) H v d → Rep K (M C A s) (upd H (A.ad i) o) v d := by
  obtain ⟨h1, h2, h3, h4, h5⟩ := r.ow i e hi
  obtain ⟨ob, eo, mo⟩ := h2.ref_some
  have li : i < s.length := by
    obtain ⟨h, _⟩ := List.getElem?_eq_some_iff.mp hi
    exact h
  have oeq : ∀ x, isO A (s.set i (.ow d')) x ↔ isO A s x := fun x => by
    constructor
    · rintro ⟨j, d, ej, q⟩
      by_cases ij : i = j
      · subst ij; exact ⟨i, e, hi, q⟩
      · rw [get_ne ij] at ej; exact ⟨j, d, ej, q⟩
    · rintro ⟨j, d, ej, q⟩
      by_cases ij : i = j
      · subst ij; exact ⟨i, d', by rw [List.getElem?_set, if_pos rfl, if_pos li], q⟩
      · exact ⟨j, d, by rw [get_ne ij]; exact ej, q⟩
  have meq : M C A (s.set i (.ow d')) = M C A s := by
    funext x
    unfold M
    rw [propext (oeq x)]
  have tp : ∀ b u, H b = some u → ¬ Mut (some u) → upd H (A.ad i) o b = some u := fun b u q m => by
    by_cases z : b = A.ad i
    · rw [z, eo] at q; cases q; exact absurd mo m
    · rw [upd_ne z]; exact q
  have inM : M C A s (A.ad i) := .inr (.inr ⟨i, e, hi, rfl⟩)
  have hl : ∀ b u, H b = some u → ¬ M C A s b → upd H (A.ad i) o b = some u ∧ ¬ M C A s b := fun b u q m => ⟨by
    rw [upd_ne fun z => m (by rw [z]; exact inM)]; exact q, m⟩
  have rep : ∀ v d, Rep K (M C A s) H v d → Rep K (M C A s) (upd H (A.ad i) o) v d := fun v d q => Rep.go (fun _ _ e => sqt_of tp e) hl _ _ q
  refine ⟨⟨fun b z => ?_, fun b u q m => ?_, fun b c q => ?_, fun j d q => ?_, fun j d q => ?_, fun j k d1 d2 e1 e2 q => ?_, fun j q => ?_, by rw [List.length_set]; exact r.ln⟩, ⟨fun b u q _ n => ?_, tp⟩, fun j d q => ?_, meq, rep⟩
  · rw [upd_ne fun y => h4 (by rw [← y]; exact z)]; exact r.nn b z
  · rw [upd_ne fun y => by rw [y, h3] at q; cases q]; exact r.fr b u q m
  · obtain ⟨⟨cs, B⟩, g1, g2⟩ := r.bg b c q
    exact ⟨⟨cs, B.put (fun z => h5 ⟨b, c, q, .inl z⟩) fun z => h5 ⟨b, c, q, .inr z⟩⟩, g1, g2⟩
  · by_cases ij : i = j
    · subst ij; exact nomatch get_eq q
    · rw [get_ne ij] at q
      obtain ⟨v, q1, q2⟩ := r.fz j d q
      exact ⟨v, q1, by rw [meq]; exact rep _ _ q2⟩
  · by_cases ij : i = j
    · subst ij
      cases get_eq q
      exact ⟨h1, by rw [meq]; exact ow, h3, h4, h5⟩
    · rw [get_ne ij] at q
      obtain ⟨g1, g2, g3, g4, g5⟩ := r.ow j d q
      refine ⟨g1, ⟨g2.1, ?_⟩, g3, g4, g5⟩
      rw [meq]
      refine Loose.go (fun _ _ e => sqt_of tp e) hl (fun y u z _ e' => ?_) g2.2
      cases z
      rw [upd_ne fun z => ij (r.di i j _ _ hi q z.symm)]; exact e'
  · have f : ∀ (j : Nat) d, (s.set i (.ow d'))[j]? = some (Sl.ow d) → ∃ d0, s[j]? = some (Sl.ow d0) := fun j d q => by
      by_cases ij : i = j
      · subst ij; exact ⟨e, hi⟩
      · rw [get_ne ij] at q; exact ⟨d, q⟩
    obtain ⟨_, f1⟩ := f j d1 e1
    obtain ⟨_, f2⟩ := f k d2 e2
    exact r.di j k _ _ f1 f2 q
  · by_cases ij : i = j
    · subst ij; exact nomatch get_eq q
    · rw [get_ne ij] at q
      exact r.bs j q
  · rw [upd_ne fun z => n ⟨i, e, hi, z.symm⟩]; exact q
  · by_cases ij : i = j
    · subst ij; exact ⟨e, hi⟩
    · rw [get_ne ij] at q; exact ⟨d, q⟩
theorem le_mut {ta : TA} {fa : FA} {r : V → List V → Hp → VK → Prop} {f : List PyData → List PyData → (List PyData → PyData → Prop) → Prop} {i : Nat} (ho : MutL K r f) (ha : LA K ta fa) : LE K (tBM K "list" r (tVar i) ta) (vMut f i fa) := ⟨fun C A σ H s P Q R0 ⟨⟨ds0, e0⟩, p⟩ q => by
  obtain ⟨h1, h2, _⟩ := R0.ow i _ e0
  obtain ⟨b, xs, eb, hx, _⟩ := h2.2
  cases eb
  refine ⟨_, h1, .inl ⟨rfl, xs, SqL.of hx⟩, ha.run C A σ H s _ _ R0 p fun H1 vs bvs s1 ⟨ds, es, e1, e2, px⟩ R1 fr dm brs => ?_⟩
  obtain ⟨g1, g2, g3⟩ := R1.ow i _ e1
  obtain ⟨b, ys, eb, hy, ry⟩ := g2.2
  cases eb
  refine ho (M C A s1) H1 _ ys ds vs es _ _ hy ry (repA_vals brs e2) px fun w vs' ds' x kx ra rw' => ?_
  have ow : Own K (M C A s1) (upd H1 (A.ad i) (.lst vs')) (.list ds') (A.ad i) := by
    refine ⟨rfl, _, _, rfl, upd_same, RepA.go (fun _ _ e => sqt_of (fun b u q m => ?_) e) (fun b u q m => ⟨?_, m⟩) _ _ ra⟩
    · by_cases z : b = A.ad i
      · rw [z, hy] at q; cases q; exact absurd trivial m
      · rw [upd_ne z]; exact q
    · rw [upd_ne fun z => m (.inr (.inr ⟨i, _, e1, z.symm⟩))]; exact q
  obtain ⟨r2, f2, d2, meq, rep⟩ := R1.putO e1 ow
  exact q _ w (x, false) _ kx (.after fr dm (.plain f2 d2 r2 (by rw [meq]; exact rep _ _ rw')))⟩
theorem le_mut0 {r : V → List V → Hp → VK → Prop} {f : List PyData → List PyData → (List PyData → PyData → Prop) → Prop} {i : Nat} (ho : MutL K r f) : LE K (tBM0 K "list" r (tVar i)) (vMut f i vNil) := ⟨fun C A σ H s P Q R0 p q => (le_mut ho la_nil).run C A σ H s P Q R0 p q⟩
end
end EV
namespace EV
open PySem PySem.Spec PyProof.Rows L2 D0
section
variable {K : PySem.W.Frag} {H H' : Hp} {v : V} {d : PyData} {a : Addr} {N N' : Addr → Prop} {Q : VK}
theorem out_int {i : Int} : Out K N H H (.int i) (.int i, false) := ⟨fun _ _ e => e, .int i⟩
theorem out_bl {b : Bool} : Out K N H H (.bl b) (.bool b, false) := ⟨fun _ _ e => e, .bl b⟩
theorem out_str {x : Str} : Out K N H H (.str x) (.str x, false) := ⟨fun _ _ e => e, .str x⟩
theorem out_non : Out K N H H .non (.none, false) := ⟨fun _ _ e => e, .non⟩
theorem out_rep (h : Rep K N H v d) : Out K N H H v (d, false) := ⟨fun _ _ e => e, h⟩
theorem out_lst {p : Addr} {xs : List V} {ds : List PyData} (n : H p = none) (r : RepA K N H xs ds) : Out K N H (upd H p (.lst xs)) (.ref p) (.list ds, true) :=
  ⟨same_upd n, p, rfl, n, rfl, _, _, rfl, upd_same, repA_same (same_upd n) (repA_plus n r)⟩
theorem out_tup {p : Addr} {o : Obj} {xs : List V} {ds : List PyData} (n : H p = none) (hd : o.dict = none) (r : RepA K N H xs ds) : Out K N H (upd H p (.frz o (.tup xs))) (.ref p) (.tuple ds, false) :=
  ⟨same_upd n, .tup (.inl ⟨o, upd_same, hd⟩) (repA_same (same_upd n) r)⟩
def fI (g : Int → Int → PyData) (c : Int → Int → Prop) : PyData → PyData → KO → Prop
  | .int i, .int j, k => c i j ∧ k (g i j, false)
  | _, _, _ => False
theorem opL_I0 {g : Int → Int → V} {g' : Int → Int → PyData} (h : ∀ N H i j, Rep K N H (g i j) (g' i j)) : OpL2 K (rI0 g) (fI g' fun _ _ => True) := fun N H u v d e k Q _ hu hv hf q => by
  cases d <;> cases e <;> first | exact hf.elim | skip
  cases hu
  cases hv
  exact ⟨_, _, rfl, rfl, q _ _ _ hf.2 (out_rep (h N H _ _))⟩
theorem opL_I {g : Int → Int → V} {g' : Int → Int → PyData} {c : Int → Int → Prop} (h : ∀ N H i j, Rep K N H (g i j) (g' i j)) : OpL2 K (rI c g) (fI g' c) := fun N H u v d e k Q _ hu hv hf q => by
  cases d <;> cases e <;> first | exact hf.elim | skip
  cases hu
  cases hv
  exact ⟨_, _, rfl, rfl, hf.1, q _ _ _ hf.2 (out_rep (h N H _ _))⟩
abbrev fSub := fI (fun i j => .int (i - j)) fun _ _ => True
abbrev fMod := fI (fun i j => .int (i.fmod j)) fun _ j => j ≠ 0
abbrev fDiv := fI (fun i j => .int (i / j)) CDivW
abbrev fPow := fI (fun i j => .int (i ^ j.toNat)) CPow
abbrev fLt := fI (fun i j => .bool (decide (i < j))) fun _ _ => True
abbrev fLe := fI (fun i j => .bool (decide (i ≤ j))) fun _ _ => True
abbrev fGt := fI (fun i j => .bool (decide (j < i))) fun _ _ => True
abbrev fGe := fI (fun i j => .bool (decide (j ≤ i))) fun _ _ => True
theorem ol_sub : OpL2 K rSubD fSub := opL_I0 fun _ _ _ _ => .int _
theorem ol_mod : OpL2 K rModD fMod := opL_I fun _ _ _ _ => .int _
theorem ol_div : OpL2 K rDivD fDiv := opL_I fun _ _ _ _ => .int _
theorem ol_pow : OpL2 K rPowD fPow := opL_I fun _ _ _ _ => .int _
theorem ol_lt : OpL2 K rLtD fLt := opL_I0 fun _ _ _ _ => .bl _
theorem ol_le : OpL2 K rLeD fLe := opL_I0 fun _ _ _ _ => .bl _
theorem ol_gt : OpL2 K rGtD fGt := opL_I0 fun _ _ _ _ => .bl _
theorem ol_ge : OpL2 K rGeD fGe := opL_I0 fun _ _ _ _ => .bl _
def fAdd : PyData → PyData → KO → Prop
  | .int i, .int j, k => k (.int (i + j), false)
  | .str x, .str y, k => x.length + y.length ≤ sizeLine ∧ k (.str (x ++ y), false)
  | .list x, .list y, k => x.length + y.length ≤ sizeLine ∧ k (.list (x ++ y), true)
  | _, _, _ => False
theorem ol_add : OpL2 K (rAddVZ K) fAdd := fun N H u v d e k Q nk hu hv hf q => by
  cases d <;> cases e <;> first | exact hf.elim | skip
  · cases hu
    cases hv
    exact .inl ⟨_, _, rfl, rfl, q _ _ _ hf out_int⟩
  · cases hu
    cases hv
    exact .inr (.inl ⟨_, _, rfl, rfl, hf.1, q _ _ _ hf.2 out_str⟩)
  · obtain ⟨a, xs, rfl, ea, ra⟩ := hu
    obtain ⟨b, ys, rfl, eb, rb⟩ := hv
    exact .inr (.inr ⟨a, b, xs, ys, rfl, rfl, ea, eb, by rw [ra.len, rb.len]; exact hf.1, fun p hp => q _ _ _ hf.2 (out_lst hp (ra.app rb))⟩)
def fMul : PyData → PyData → KO → Prop
  | .int i, .int j, k => CMul i j ∧ k (.int (i * j), false)
  | .str x, .int j, k => -(2 ^ 62) ≤ j ∧ j ≤ 1000 ∧ x.length ≤ 1000 ∧ k (.str (repS x j), false)
  | .list x, .int j, k => -(2 ^ 63) ≤ j ∧ j < 2 ^ 63 ∧ x.length * j.toNat ≤ sizeLine ∧ k (.list (List.replicate j.toNat x).flatten, true)
  | _, _, _ => False
theorem repA_flat2 {xs : List V} {ds : List PyData} (r : RepA K N H xs ds) : ∀ n, RepA K N H (List.replicate n xs).flatten (List.replicate n ds).flatten
  | 0 => .nil
  | n + 1 => by
    rw [List.replicate_succ, List.replicate_succ, List.flatten_cons, List.flatten_cons]
    exact r.app (repA_flat2 r n)
theorem ol_mul : OpL2 K rMulV fMul := fun N H u v d e k Q nk hu hv hf q => by
  cases d <;> cases e <;> first | exact hf.elim | skip
  · cases hu
    cases hv
    exact .inl (.inl ⟨_, _, rfl, rfl, hf.1, q _ _ _ hf.2 out_int⟩)
  · cases hu
    cases hv
    exact .inr ⟨_, _, rfl, rfl, hf.1, hf.2.1, hf.2.2.1, q _ _ _ hf.2.2.2 out_str⟩
  · obtain ⟨a, xs, rfl, ea, ra⟩ := hu
    cases hv
    exact .inl (.inr ⟨a, _, xs, rfl, rfl, ea, hf.1, hf.2.1, by rw [ra.len]; exact hf.2.2.1, fun p hp => q _ _ _ hf.2.2.2 (out_lst hp (repA_flat2 ra _))⟩)
def scalD : PyData → PyData → Bool
  | .none, .none => true | .none, .int _ => true | .int _, .none => true | .none, .bool _ => true | .bool _, .none => true | .none, .str _ => true | .str _, .none => true
  | .int _, .int _ => true | .bool _, .bool _ => true | .str _, .str _ => true
  | .int _, .str _ => true | .str _, .int _ => true | .bool _, .str _ => true | .str _, .bool _ => true
  | _, _ => false
def eqOk (d e : PyData) : Bool := scalD d e || (SeqAt.shaped d && SeqAt.shaped e)
def fEq (d e : PyData) (k : KO) : Prop := eqOk d e = true ∧ k (.bool (PyData.eqv d e), false)
def fNe (d e : PyData) (k : KO) : Prop := eqOk d e = true ∧ k (.bool (!PyData.eqv d e), false)
theorem shaped_lay {d : PyData} (h : SeqAt.shaped d = true) : d.canLay0 = true := by
  unfold SeqAt.shaped at h
  rw [Bool.and_eq_true] at h
  exact h.1
theorem scal_eqv {d e : PyData} {u v : V} (h : scalD d e = true) (hu : Loose K N H u d) (hv : Loose K N H v e) : scal u v = true ∧ decide (u = v) = PyData.eqv d e := by
  cases d <;> cases e <;> first | (cases h; done) | skip
  all_goals
    cases hu
    cases hv
    refine ⟨rfl, ?_⟩
    first
      | rfl
      | (simp [PyData.eqv]; done)
      | (simp [PyData.eqv]; exact decide_eq_decide.mpr ⟨fun h => by cases h; rfl, fun h => by rw [h]⟩)
theorem ol_eq : OpL2 K (rEqV K) fEq := fun N H u v d e k Q nk hu hv ⟨h, hk⟩ q => by
  unfold eqOk at h
  rw [Bool.or_eq_true] at h
  rcases h with h | h
  · obtain ⟨h1, h2⟩ := scal_eqv h hu hv
    exact .inl ⟨h1, by rw [h2]; exact q _ _ _ hk out_bl⟩
  · rw [Bool.and_eq_true] at h
    exact .inr ⟨d, e, hu.dp (shaped_lay h.1), hv.dp (shaped_lay h.2), h.1, h.2, q _ _ _ hk out_bl⟩
theorem ol_ne : OpL2 K (rNeV K) fNe := fun N H u v d e k Q nk hu hv ⟨h, hk⟩ q => by
  unfold eqOk at h
  rw [Bool.or_eq_true] at h
  rcases h with h | h
  · obtain ⟨h1, h2⟩ := scal_eqv h hu hv
    exact .inl ⟨h1, by rw [h2]; exact q _ _ _ hk out_bl⟩
  · rw [Bool.and_eq_true] at h
    exact .inr ⟨d, e, hu.dp (shaped_lay h.1), hv.dp (shaped_lay h.2), h.1, h.2, q _ _ _ hk out_bl⟩
def isNoneD : PyData → Bool
  | .none => true
  | _ => false
theorem loose_non (h : Loose K N H v d) : decide (v = .non) = isNoneD d := by
  cases d with
  | none => cases h; rfl
  | bool _ => cases h; rfl
  | int _ => cases h; rfl
  | str _ => cases h; rfl
  | list _ => obtain ⟨a, xs, rfl, _⟩ := h; rfl
  | dict _ => obtain ⟨a, rfl, _⟩ := h; rfl
  | tuple _ => cases h; rfl
def flatS : PyData → Bool
  | .none => true | .bool _ => true | .int _ => true | .str _ => true | _ => false
theorem flat_loose (f : flatS d = true) (h : Loose K N H v d) : flatV v = true := by
  cases d <;> first | (cases f; done) | (cases h; rfl)
theorem flat_rep (f : flatS d = true) (h : Rep K N H v d) : flatV v = true := flat_loose f h.loose
theorem eqV_eqv {d e : PyData} {u v : V} (fd : flatS d = true) (fe : flatS e = true) (hu : Loose K N H u d) (hv : Loose K N H v e) : eqV u v = PyData.eqv d e := by
  cases d <;> first | (cases fd; done) | skip
  all_goals cases e <;> first | (cases fe; done) | skip
  all_goals
    cases hu
    cases hv
    first
      | rfl
      | (simp [PyData.eqv, eqV]; done)
theorem all_flat {vs : List V} {ds : List PyData} (r : RepA K N H vs ds) (f : ds.all flatS = true) : vs.all flatV = true := by
  induction vs generalizing ds with
  | nil => rfl
  | cons v vs ih =>
    cases r with
    | cons a b =>
      rw [List.all_cons, Bool.and_eq_true] at f ⊢
      exact ⟨flat_rep f.1 a, ih b f.2⟩
theorem inV_any {x : V} {d : PyData} (fd : flatS d = true) (hx : Loose K N H x d) : ∀ {vs : List V} {ds : List PyData}, RepA K N H vs ds → ds.all flatS = true → inV x vs = ds.any fun z => PyData.eqv z d
  | _, _, .nil, _ => rfl
  | _, _, .cons a b, f => by
    rw [List.all_cons, Bool.and_eq_true] at f
    have ih := inV_any fd hx b f.2
    unfold inV at ih ⊢
    rw [List.any_cons, List.any_cons, ih, eqV_eqv f.1 fd a.loose hx]
def seqOf : PyData → Option (List PyData)
  | .list ds => some ds
  | .tuple ds => some ds
  | _ => none
/-- x in l: flat things, or data of any depth in a list; a sign in a text -/
def fInG (neg : Bool) (d e : PyData) (k : KO) : Prop :=
  (∃ ds, seqOf e = some ds ∧ flatS d = true ∧ ds.all flatS = true ∧ k (.bool (if neg then !ds.any (fun z => PyData.eqv z d) else ds.any fun z => PyData.eqv z d), false)) ∨
  (∃ ds, e = .list ds ∧ SeqAt.shaped d = true ∧ SeqAt.shaped (.list ds) = true ∧ k (.bool (if neg then !ds.any (fun z => PyData.eqv z d) else ds.any fun z => PyData.eqv z d), false)) ∨
  ∃ (c : Nat) (z : Str), d = .str ⟨#[c]⟩ ∧ e = .str z ∧ k (.bool (if neg then !decide (c ∈ z.cps.toList) else decide (c ∈ z.cps.toList)), false)
abbrev fIn := fInG false
abbrev fNin := fInG true
theorem inG {neg : Bool} {u v : V} {d e : PyData} {k : KO} (hu : Loose K N H u d) (hv : Loose K N H v e) (hf : fInG neg d e k) (q : ∀ H' w x, k x → Out K N H H' w x → Q w H') :
    D0.rInD K neg u v H Q ∨ ∃ d ds, Dp K H u d ∧ Dp K H v (.list ds) ∧ SeqAt.shaped d = true ∧ SeqAt.shaped (.list ds) = true ∧ Q (.bl (if neg then !ds.any (fun z => PyData.eqv z d) else ds.any fun z => PyData.eqv z d)) H := by
  rcases hf with ⟨ds, hs, fd, fa, hk⟩ | ⟨ds, rfl, sd, sl, hk⟩ | ⟨c, z, rfl, rfl, hk⟩
  · cases e with
    | list es =>
      cases hs
      obtain ⟨a, xs, rfl, ea, ra⟩ := hv
      exact .inl (.inl ⟨a, xs, rfl, .inl (SqL.of ea), flat_loose fd hu, all_flat ra fa, by rw [inV_any fd hu ra fa]; exact q _ _ _ hk out_bl⟩)
    | tuple es =>
      cases hs
      cases hv with
      | tup ea ra => exact .inl (.inl ⟨_, _, rfl, .inr ea.sqt, flat_loose fd hu, all_flat ra fa, by rw [inV_any fd hu ra fa]; exact q _ _ _ hk out_bl⟩)
    | _ => cases hs
  · exact .inr ⟨d, ds, hu.dp (shaped_lay sd), hv.dp (shaped_lay sl), sd, sl, q _ _ _ hk out_bl⟩
  · cases hu
    cases hv
    exact .inl (.inr ⟨c, z, rfl, rfl, q _ _ _ hk out_bl⟩)
theorem ol_in : OpL2 K (rInV K) fIn := fun N H u v d e k Q nk hu hv hf q => inG hu hv hf q
theorem ol_nin : OpL2 K (rNinV K) fNin := fun N H u v d e k Q nk hu hv hf q => inG hu hv hf q
def fIx : PyData → PyData → KO → Prop
  | .list ds, .int i, k => ∃ d, atI ds i = some d ∧ k (d, false)
  | .tuple ds, .int i, k => ∃ d, atI ds i = some d ∧ k (d, false)
  | .str z, .int i, k => z.length ≤ sizeLine ∧ ∃ c, atI z.cps.toList i = some c ∧ k (.str ⟨#[c]⟩, false)
  | _, _, _ => False
theorem at_rep {vs : List V} {ds : List PyData} {i : Int} (r : RepA K N H vs ds) (h : atI ds i = some d) : ∃ v, atI vs i = some v ∧ Rep K N H v d := by
  unfold atI at h ⊢
  rw [r.len]
  cases e : ixN ds.length i with
  | none => rw [e] at h; cases h
  | some j =>
    rw [e] at h
    exact r.get h
theorem ol_ix : OpL2 K (rIxD K) fIx := fun N H u v d e k Q nk hu hv hf q => by
  cases d <;> cases e <;> first | exact hf.elim | skip
  · cases hu
    cases hv
    obtain ⟨hz, c, e, hk⟩ := hf
    exact .inr (.inr ⟨_, _, c, rfl, rfl, hz, e, q _ _ _ hk out_str⟩)
  · obtain ⟨a, xs, rfl, ea, ra⟩ := hu
    cases hv
    obtain ⟨d, e, hk⟩ := hf
    obtain ⟨w, ew, rw'⟩ := at_rep ra e
    exact .inl ⟨a, xs, _, w, rfl, rfl, SqL.of ea, ew, q _ _ _ hk (out_rep rw')⟩
  · cases hu with
    | tup ea ra =>
      cases hv
      obtain ⟨d, e, hk⟩ := hf
      obtain ⟨w, ew, rw'⟩ := at_rep ra e
      exact .inr (.inl ⟨_, _, _, w, rfl, rfl, ea.sqt, ew, q _ _ _ hk (out_rep rw')⟩)
def cutD {α : Type} (xs : List α) (lo hi : Option Int) : List α := (xs.drop (HT.sIx xs.length 0 lo)).take (HT.sIx xs.length xs.length hi - HT.sIx xs.length 0 lo)
theorem cut_rep {vs : List V} {ds : List PyData} (r : RepA K N H vs ds) (lo hi : Option Int) : RepA K N H (cutV vs lo hi) (cutD ds lo hi) := by
  unfold cutV cutD
  rw [r.len]
  exact (r.drop _).take _
def fSl : PyData → Option Int → Option Int → KO → Prop
  | .list ds, lo, hi, k => k (.list (cutD ds lo hi), true)
  | .tuple ds, lo, hi, k => k (.tuple (cutD ds lo hi), false)
  | .str z, lo, hi, k => z.length ≤ sizeLine ∧ k (.str (cutS z lo hi), false)
  | _, _, _, _ => False
def OpSl (K : PySem.W.Frag) (r : V → Option Int → Option Int → Hp → VK → Prop) (f : PyData → Option Int → Option Int → KO → Prop) : Prop :=
  ∀ N H v d lo hi k Q, NOk N H → Loose K N H v d → f d lo hi k → (∀ H' w x, k x → Out K N H H' w x → Q w H') → r v lo hi H Q
theorem ol_sl : OpSl K (rSlVZ K) fSl := fun N H v d lo hi k Q nk hv hf q => by
  cases d <;> first | exact hf.elim | skip
  · cases hv
    exact .inl (.inr ⟨_, rfl, hf.1, q _ _ _ hf.2 out_str⟩)
  · obtain ⟨a, xs, rfl, ea, ra⟩ := hv
    exact .inl (.inl ⟨a, xs, rfl, SqL.of ea, fun p hp => q _ _ _ hf (out_lst hp (cut_rep ra lo hi))⟩)
  · cases hv with
    | tup ea ra =>
      refine .inr ⟨_, _, rfl, ea.sqt, fun w => ?_, fun _ p o hp ho => q _ _ _ hf (out_tup hp ho (cut_rep ra lo hi))⟩
      rename_i ds a xs
      have e : cutD ds lo hi = ds := by
        unfold cutD
        rw [← ra.len, w.1, w.2, List.drop_zero, Nat.sub_zero, ra.len, List.take_length]
      have hf : k (.tuple (cutD ds lo hi), false) := hf
      rw [e] at hf
      exact q _ _ _ hf (out_rep (.tup ea ra))
def fRev : PyData → KO → Prop
  | .list ds, k => k (.list ds.reverse, true)
  | _, _ => False
def fNeg : PyData → KO → Prop
  | .int i, k => k (.int (-i), false)
  | _, _ => False
theorem ol_neg : OpL1 K (rU fun i => .int (-i)) fNeg := fun N H v d k Q nk hv hf q => by
  cases d <;> first | exact hf.elim | skip
  cases hv
  exact ⟨_, rfl, q _ _ _ hf out_int⟩
def fLen : List PyData → KO → Prop
  | [.list ds], k => k (.int ds.length, false)
  | [.tuple ds], k => k (.int ds.length, false)
  | [.str z], k => z.length ≤ sizeLine ∧ k (.int z.length, false)
  | _, _ => False
theorem ol_len : OpLA K (rLenD K) fLen := fun N H vs ds k Q nk hv hf q => by
  cases hv with
  | nil => exact hf.elim
  | cons h t =>
    rename_i v d vs ds
    cases t with
    | cons _ _ => cases d <;> exact hf.elim
    | nil =>
      cases d <;> first | exact hf.elim | skip
      · cases h
        exact ⟨_, _, rfl, ⟨hf.1, rfl⟩, q _ _ _ hf.2 out_int⟩
      · obtain ⟨a, xs, rfl, ea, ra⟩ := h
        refine ⟨_, _, rfl, .inl ⟨xs, SqL.of ea, rfl⟩, ?_⟩
        rw [ra.len]
        exact q _ _ _ hf out_int
      · cases h with
        | tup ea ra =>
          refine ⟨_, _, rfl, .inr ⟨_, ea.sqt, rfl⟩, ?_⟩
          rw [ra.len]
          exact q _ _ _ hf out_int
def fAbs : List PyData → KO → Prop
  | [.int i], k => k (.int (if i < 0 then -i else i), false)
  | _, _ => False
theorem la1 {vs : List V} {d : PyData} (h : LooseA K N H vs [d]) : ∃ v, vs = [v] ∧ Loose K N H v d := by
  cases h with
  | cons a b => cases b; exact ⟨_, rfl, a⟩
theorem la2 {vs : List V} {d e : PyData} (h : LooseA K N H vs [d, e]) : ∃ u v, vs = [u, v] ∧ Loose K N H u d ∧ Loose K N H v e := by
  cases h with
  | cons a b =>
    cases b with
    | cons b c => cases c; exact ⟨_, _, rfl, a, b⟩
def fInt (ds : List PyData) (k : KO) : Prop := (∃ i, ds = [.int i] ∧ k (.int i, false)) ∨ ∃ b, ds = [.bool b] ∧ k (.int (if b then 1 else 0), false)
theorem ol_int : OpLA K rIntD fInt := fun N H vs ds k Q nk hv hf q => by
  rcases hf with ⟨i, rfl, hk⟩ | ⟨i, rfl, hk⟩
  · obtain ⟨v, rfl, h⟩ := la1 hv
    cases h
    exact .inl ⟨_, rfl, q _ _ _ hk out_int⟩
  · obtain ⟨v, rfl, h⟩ := la1 hv
    cases h
    exact .inr ⟨_, rfl, q _ _ _ hk out_int⟩
def strOf : PyData → Option Str
  | .int i => some (toString i)
  | .str x => some x
  | .bool b => some (if b then "True" else "False")
  | _ => none
def fStr (ds : List PyData) (k : KO) : Prop := (∃ i : Int, ds = [.int i] ∧ i.natAbs.log2 < 1920 ∧ k (.str (toString i), false)) ∨ (∃ x, ds = [.str x] ∧ k (.str x, false)) ∨ ∃ b : Bool, ds = [.bool b] ∧ k (.str (if b then "True" else "False"), false)
theorem ol_str : OpLA K rStrV fStr := fun N H vs ds k Q nk hv hf q => by
  rcases hf with ⟨i, rfl, hz, hk⟩ | ⟨i, rfl, hk⟩ | ⟨i, rfl, hk⟩
  · obtain ⟨v, rfl, h⟩ := la1 hv
    cases h
    exact .inl ⟨_, rfl, hz, q _ _ _ hk out_str⟩
  · obtain ⟨v, rfl, h⟩ := la1 hv
    cases h
    exact .inr (.inl ⟨_, rfl, q _ _ _ hk out_str⟩)
  · obtain ⟨v, rfl, h⟩ := la1 hv
    cases h
    exact .inr (.inr ⟨_, rfl, q _ _ _ hk out_str⟩)
def fAbs' (ds : List PyData) (k : KO) : Prop := ∃ i, ds = [.int i] ∧ k (.int (if i < 0 then -i else i), false)
theorem ol_abs : OpLA K rAbsD fAbs' := fun N H vs ds k Q nk hv ⟨i, e, hk⟩ q => by
  subst e
  obtain ⟨v, rfl, h⟩ := la1 hv
  cases h
  exact ⟨_, rfl, q _ _ _ hk out_int⟩
def fMax2 (ds : List PyData) (k : KO) : Prop := ∃ i j, ds = [.int i, .int j] ∧ k (.int (if j > i then j else i), false)
theorem ol_max2 : OpLA K rMax2D fMax2 := fun N H vs ds k Q nk hv ⟨i, j, e, hk⟩ q => by
  subst e
  obtain ⟨u, v, rfl, h1, h2⟩ := la2 hv
  cases h1
  cases h2
  exact ⟨_, _, rfl, q _ _ _ hk out_int⟩
def fMin2 (ds : List PyData) (k : KO) : Prop := ∃ i j, ds = [.int i, .int j] ∧ k (.int (if j < i then j else i), false)
theorem ol_min2 : OpLA K rMin2D fMin2 := fun N H vs ds k Q nk hv ⟨i, j, e, hk⟩ q => by
  subst e
  obtain ⟨u, v, rfl, h1, h2⟩ := la2 hv
  cases h1
  cases h2
  exact ⟨_, _, rfl, q _ _ _ hk out_int⟩
theorem loose_ints {ns : List Int} (h : Loose K N H v (.list (ns.map .int))) : ∃ a, v = .ref a ∧ SqL K H a (ns.map V.int) := by
  obtain ⟨a, xs, rfl, ea, ra⟩ := h
  rw [ra.ints] at ea
  exact ⟨a, rfl, SqL.of ea⟩
def fSum (ds : List PyData) (k : KO) : Prop := ∃ ns : List Int, ds = [.list (ns.map .int)] ∧ k (.int ns.sum, false)
theorem ol_sum : OpLA K (rSum K) fSum := fun N H vs ds k Q nk hv ⟨ns, e, hk⟩ q => by
  subst e
  obtain ⟨v, rfl, h⟩ := la1 hv
  obtain ⟨a, rfl, h'⟩ := loose_ints h
  exact ⟨a, ns, rfl, h', q _ _ _ hk out_int⟩
def fMax1 (ds : List PyData) (k : KO) : Prop := ∃ ns : List Int, ds = [.list (ns.map .int)] ∧ 0 < ns.length ∧ ∀ m, m ∈ ns → (∀ y, y ∈ ns → y ≤ m) → k (.int m, false)
theorem ol_max1 : OpLA K (rMax K) fMax1 := fun N H vs ds k Q nk hv ⟨ns, e, hn, hk⟩ q => by
  subst e
  obtain ⟨v, rfl, h⟩ := la1 hv
  obtain ⟨a, rfl, h'⟩ := loose_ints h
  exact ⟨a, ns, rfl, h', hn, fun m h1 h2 => q _ _ _ (hk m h1 h2) out_int⟩
def fMin1 (ds : List PyData) (k : KO) : Prop := ∃ ns : List Int, ds = [.list (ns.map .int)] ∧ 0 < ns.length ∧ ∀ m, m ∈ ns → (∀ y, y ∈ ns → m ≤ y) → k (.int m, false)
theorem ol_min1 : OpLA K (rMin K) fMin1 := fun N H vs ds k Q nk hv ⟨ns, e, hn, hk⟩ q => by
  subst e
  obtain ⟨v, rfl, h⟩ := la1 hv
  obtain ⟨a, rfl, h'⟩ := loose_ints h
  exact ⟨a, ns, rfl, h', hn, fun m h1 h2 => q _ _ _ (hk m h1 h2) out_int⟩
def fAll (ds : List PyData) (k : KO) : Prop := ∃ bs : List Bool, ds = [.list (bs.map .bool)] ∧ k (.bool (bs.all id), false)
theorem ol_all : OpLA K (rAll K) fAll := fun N H vs ds k Q nk hv ⟨bs, e, hk⟩ q => by
  subst e
  obtain ⟨v, rfl, h⟩ := la1 hv
  obtain ⟨a, xs, rfl, ea, ra⟩ := h
  rw [ra.bools] at ea
  exact ⟨a, bs, rfl, SqL.of ea, q _ _ _ hk out_bl⟩
def fAny (ds : List PyData) (k : KO) : Prop := ∃ bs : List Bool, ds = [.list (bs.map .bool)] ∧ k (.bool (bs.any id), false)
theorem ol_any : OpLA K (rAny K) fAny := fun N H vs ds k Q nk hv ⟨bs, e, hk⟩ q => by
  subst e
  obtain ⟨v, rfl, h⟩ := la1 hv
  obtain ⟨a, xs, rfl, ea, ra⟩ := h
  rw [ra.bools] at ea
  exact ⟨a, bs, rfl, SqL.of ea, q _ _ _ hk out_bl⟩
def fSortI (ds : List PyData) (k : KO) : Prop := ∃ ns : List Int, ds = [.list (ns.map .int)] ∧ ∀ ns' : List Int, ns'.Perm ns → ns'.Pairwise (· ≤ ·) → k (.list (ns'.map .int), true)
theorem ol_sortI : OpLA K (rSortedI K) fSortI := fun N H vs ds k Q nk hv ⟨ns, e, hk⟩ q => by
  subst e
  obtain ⟨v, rfl, h⟩ := la1 hv
  obtain ⟨a, rfl, h'⟩ := loose_ints h
  exact ⟨a, ns, rfl, h', fun ns' p h1 h2 hp => q _ _ _ (hk ns' h1 h2) (out_lst hp (RepA.of_ints ns'))⟩
def fList (ds : List PyData) (k : KO) : Prop := ∃ e es, ds = [e] ∧ seqOf e = some es ∧ k (.list es, true)
theorem loose_seq {e : PyData} {es : List PyData} (h : Loose K N H v e) (hs : seqOf e = some es) : ∃ a xs, v = .ref a ∧ ((e = .list es ∧ SqL K H a xs) ∨ (e = .tuple es ∧ TupR K H a xs es)) ∧ RepA K N H xs es := by
  cases e with
  | list ds => cases hs; obtain ⟨a, xs, rfl, ea, ra⟩ := h; exact ⟨a, xs, rfl, .inl ⟨rfl, SqL.of ea⟩, ra⟩
  | tuple ds => cases hs; cases h with
    | tup ea ra => exact ⟨_, _, rfl, .inr ⟨rfl, ea⟩, ra⟩
  | _ => cases hs
theorem ol_list : OpLA K (rListD K) fList := fun N H vs ds k Q nk hv ⟨e, es, e1, hs, hk⟩ q => by
  subst e1
  obtain ⟨v, rfl, h⟩ := la1 hv
  obtain ⟨a, xs, rfl, hq, ra⟩ := loose_seq h hs
  exact ⟨a, xs, rfl, hq.imp And.right fun z => z.2.sqt, fun p hp => q _ _ _ hk (out_lst hp ra)⟩
def fTuple (ds : List PyData) (k : KO) : Prop := ∃ e es, ds = [e] ∧ seqOf e = some es ∧ k (.tuple es, false)
theorem ol_tuple : OpLA K (rTupleZ K) fTuple := fun N H vs ds k Q nk hv ⟨e, es, e1, hs, hk⟩ q => by
  subst e1
  obtain ⟨v, rfl, h⟩ := la1 hv
  obtain ⟨a, xs, rfl, hq, ra⟩ := loose_seq h hs
  refine ⟨a, xs, rfl, ?_⟩
  rcases hq with ⟨_, hq⟩ | ⟨_, hq⟩
  · exact .inl ⟨hq, fun p o hp ho => q _ _ _ hk (out_tup hp ho ra)⟩
  · exact .inr ⟨hq.sqt, q _ _ _ hk (out_rep (.tup hq ra))⟩
def fOrd (ds : List PyData) (k : KO) : Prop := ∃ x : Str, ds = [.str x] ∧ x.length = 1 ∧ k (.int (x.cps.getD 0 0 : Nat), false)
theorem ol_ord : OpLA K rOrdD fOrd := fun N H vs ds k Q nk hv ⟨x, e, hx, hk⟩ q => by
  subst e
  obtain ⟨v, rfl, h⟩ := la1 hv
  cases h
  exact ⟨_, rfl, hx, q _ _ _ hk out_int⟩
def mAppend : List PyData → List PyData → (List PyData → PyData → Prop) → Prop
  | ds, [d], k => ds.length < sizeLine ∧ k (ds ++ [d]) .none
  | _, _, _ => False
theorem ml_append : MutL K rAppend mAppend := fun N H a vs ds ws es k Q e r rw' hf q => by
  cases rw' with
  | nil => exact hf.elim
  | cons h t =>
    cases t with
    | cons _ _ => exact hf.elim
    | nil => exact ⟨a, vs, _, rfl, rfl, e, by rw [r.len]; exact hf.1, q _ _ _ _ hf.2 (r.app (.cons h .nil)) .non⟩
def mExtend : List PyData → List PyData → (List PyData → PyData → Prop) → Prop
  | ds, [.list es], k => ds.length + es.length ≤ sizeLine ∧ k (ds ++ es) .none
  | _, _, _ => False
theorem ml_extend : MutL K rExtend mExtend := fun N H a vs ds ws es k Q e r rw' hf q => by
  cases rw' with
  | nil => exact hf.elim
  | cons h t =>
    rename_i d ds
    cases t with
    | cons _ _ => cases d <;> exact hf.elim
    | nil =>
      cases d <;> first | exact hf.elim | skip
      obtain ⟨b, ys, rfl, eb, rb⟩ := h.loose
      exact ⟨a, b, vs, ys, rfl, rfl, e, eb, by rw [r.len, rb.len]; exact hf.1, q _ _ _ _ hf.2 (r.app rb) .non⟩
def mPopAt : List PyData → List PyData → (List PyData → PyData → Prop) → Prop
  | ds, [.int i], k => -(2 ^ 63) ≤ i ∧ i < 2 ^ 63 ∧ ∃ j d, seqIndex? i ds.length = some j ∧ ds[j]? = some d ∧ k (ds.eraseIdx j) d
  | _, _, _ => False
theorem RepA.erase : ∀ {vs : List V} {ds : List PyData} (j : Nat), RepA K N H vs ds → RepA K N H (vs.eraseIdx j) (ds.eraseIdx j)
  | _, _, _, .nil => .nil
  | _, _, 0, .cons _ t => t
  | _, _, j + 1, .cons h t => .cons h (RepA.erase j t)
theorem ml_popAt : MutL K rPopAt mPopAt := fun N H a vs ds ws es k Q e r rw' hf q => by
  cases rw' with
  | nil => exact hf.elim
  | cons h t =>
    rename_i d ds
    cases t with
    | cons _ _ => cases d <;> exact hf.elim
    | nil =>
      cases d <;> first | exact hf.elim | skip
      cases h
      obtain ⟨h1, h2, j, x, h3, h4, hk⟩ := hf
      obtain ⟨y, ey, ry⟩ := r.get h4
      exact ⟨a, vs, _, j, y, rfl, rfl, e, h1, h2, by rw [r.len]; exact h3, ey, q _ _ _ _ hk (r.erase j) ry⟩
def mPop : List PyData → List PyData → (List PyData → PyData → Prop) → Prop
  | ds, [], k => ∃ d, ds[ds.length - 1]? = some d ∧ k ds.dropLast d
  | _, _, _ => False
theorem RepA.dropLast {vs : List V} {ds : List PyData} (r : RepA K N H vs ds) : RepA K N H vs.dropLast ds.dropLast := by
  rw [List.dropLast_eq_take, List.dropLast_eq_take, r.len]
  exact r.take _
theorem ml_pop : MutL K rPop mPop := fun N H a vs ds ws es k Q e r rw' hf q => by
  cases rw' with
  | cons _ _ => exact hf.elim
  | nil =>
    obtain ⟨d, h, hk⟩ := hf
    obtain ⟨y, ey, ry⟩ := r.get h
    exact ⟨a, vs, y, rfl, rfl, e, by rw [r.len]; exact ey, q _ _ _ _ hk r.dropLast ry⟩
def mReverse : List PyData → List PyData → (List PyData → PyData → Prop) → Prop
  | ds, [], k => k ds.reverse .none
  | _, _, _ => False
theorem ml_reverse : MutL K rReverse mReverse := fun N H a vs ds ws es k Q e r rw' hf q => by
  cases rw' with
  | cons _ _ => exact hf.elim
  | nil => exact ⟨a, vs, rfl, rfl, e, q _ _ _ _ hf r.rev .non⟩
def mClear : List PyData → List PyData → (List PyData → PyData → Prop) → Prop
  | ds, [], k => k [] .none
  | _, _, _ => False
theorem ml_clear : MutL K rClear mClear := fun N H a vs ds ws es k Q e r rw' hf q => by
  cases rw' with
  | cons _ _ => exact hf.elim
  | nil => exact ⟨a, vs, rfl, rfl, e, q _ _ _ _ hf .nil .non⟩
end
end EV
namespace D0
open PySem PySem.Spec PyProof.Rows L2
def rIsV : R2 := fun x y H Q => (y = .non ∧ Q (.bl (decide (x = .non))) H) ∨ ∃ b, y = .bl b ∧ flatV x = true ∧ Q (.bl (decide (x = .bl b))) H
def rNotV : R2 := fun x y H Q => (y = .non ∧ Q (.bl (!decide (x = .non))) H) ∨ ∃ b, y = .bl b ∧ flatV x = true ∧ Q (.bl (!decide (x = .bl b))) H
section
variable {X : Cx}
theorem is_bl {M : Model} {A : Around} {E : Value → Shared → Prop} {s : Shared} {x : V} {u : Value} {b : Bool} {R : Bool → Shared → Prop} (r : RelV x u) (f : flatV x = true) (q : R (decide (x = .bl b)) s) : wpAny M A (isSame u (.bool b)) R E s := by
  have go : plainIs u (.bool b) = true → (u == Value.bool b) = decide (x = .bl b) → wpAny M A (isSame u (.bool b)) R E s := fun h1 h2 => wpAny_isSame_plain h1 (by rw [h2]; exact q)
  cases x with
  | non => cases r; exact go rfl rfl
  | bl c =>
    cases r
    refine go rfl ?_
    by_cases h : c = b
    · subst h; simp
    · rw [decide_eq_false (fun z => h (V.bl.inj z))]
      cases c <;> cases b <;> first | exact absurd rfl h | rfl
  | int i => obtain ⟨t, rfl⟩ := r; exact go rfl rfl
  | str x => obtain ⟨t, rfl⟩ := r; exact go rfl rfl
  | _ => cases f
theorem dIsV : OpR X (compareOp .Is) rIsV := by
  intro pins s σ H x y v u Q I rx ry h
  rcases h with h | ⟨b, rfl, f, q⟩
  · exact op_isN pins s σ H x y v u Q I rx ry h
  · cases ry
    show wpAny _ _ ((isSame v (Value.bool b)) >>= fun z => pure (Value.bool z)) _ _ s
    exact wpAny_bind (is_bl rx f (wpAny_pure (fin_bl I q rfl)))
theorem dNotV : OpR X (compareOp .IsNot) rNotV := by
  intro pins s σ H x y v u Q I rx ry h
  rcases h with h | ⟨b, rfl, f, q⟩
  · exact op_notN pins s σ H x y v u Q I rx ry h
  · cases ry
    show wpAny _ _ ((isSame v (Value.bool b)) >>= fun z => pure (Value.bool (!z))) _ _ s
    exact wpAny_bind (is_bl rx f (wpAny_pure (fin_bl I q rfl)))
end
end D0
namespace EV
open PySem PySem.Spec PyProof.Rows L2 D0 StX
section
variable {K : PySem.W.Frag} {C : VC} {A A' A1 A2 : Dy} {σ σ' : L2.St} {H H' H1 H2 : Hp} {s s' s1 s2 : VS} {v : V} {d : PyData} {a : Addr} {N N' : Addr → Prop} {Q : VK}
def isBD (b : Bool) : PyData → Bool
  | .bool c => decide (c = b)
  | _ => false
def fIsG (neg : Bool) (d e : PyData) (k : KO) : Prop := (e = .none ∧ k (.bool (if neg then !isNoneD d else isNoneD d), false)) ∨ ∃ b, e = .bool b ∧ flatS d = true ∧ k (.bool (if neg then !isBD b d else isBD b d), false)
abbrev fIs := fIsG false
abbrev fIsNot := fIsG true
theorem flat_isB {b : Bool} (f : flatS d = true) (h : Loose K N H v d) : decide (v = .bl b) = isBD b d := by
  cases d <;> first | (cases f; done) | skip
  all_goals cases h
  · rfl
  · rename_i c
    exact decide_eq_decide.mpr ⟨V.bl.inj, fun e => by rw [e]⟩
  · rfl
  · rfl
theorem ol_is : OpL2 K rIsV fIs := fun N H u v d e k Q nk hu hv hf q => by
  rcases hf with ⟨rfl, hk⟩ | ⟨b, rfl, f, hk⟩
  · cases hv
    exact .inl ⟨rfl, by rw [loose_non hu]; exact q _ _ _ hk out_bl⟩
  · cases hv
    exact .inr ⟨b, rfl, flat_loose f hu, by rw [flat_isB f hu]; exact q _ _ _ hk out_bl⟩
theorem ol_isnot : OpL2 K rNotV fIsNot := fun N H u v d e k Q nk hu hv hf q => by
  rcases hf with ⟨rfl, hk⟩ | ⟨b, rfl, f, hk⟩
  · cases hv
    exact .inl ⟨rfl, by rw [loose_non hu]; exact q _ _ _ hk out_bl⟩
  · cases hv
    exact .inr ⟨b, rfl, flat_loose f hu, by rw [flat_isB f hu]; exact q _ _ _ hk out_bl⟩
def tyN : PyData → String
  | .none => "NoneType" | .bool _ => "bool" | .int _ => "int" | .str _ => "str" | .list _ => "list" | .tuple _ => "tuple" | .dict _ => "dict"
theorem tyx_of (h : Loose K N H v d) : TyX K H v (.type (tyN d)) := by
  cases d with
  | none => cases h; exact .base .non
  | bool _ => cases h; exact .base (.bl _)
  | int _ => cases h; exact .base (.int _)
  | str _ => cases h; exact .base (.str _)
  | list _ => obtain ⟨a, xs, rfl, e, _⟩ := h; exact .base (.lst e)
  | dict _ =>
    obtain ⟨a, rfl, ⟨kvs, e, _⟩ | ⟨kvs, e, _⟩⟩ := h
    · exact .base (.dK e)
    · exact .base (.dT e)
  | tuple _ =>
    cases h with
    | tup e _ =>
      rcases e with ⟨_, e, _⟩ | ⟨⟨o, its, n, q1, q2, _⟩, _⟩
      · exact .fTuple e
      · exact .kTuple q1 q2
def vIsi (n : String) (a : FB) : FE := fun s P => a s fun x s1 => ∃ d b, rsv s1 x = some d ∧ kitB (tyN d) n = some b ∧ P (.bool b, false) s1
theorem le_isi {te : TE} {fa : FB} {n : String} (ha : LB K te fa) : LE K (tCB (rIsi K) (tCons te (tCons (tC (.ty n)) tNil))) (vIsi n fa) := ⟨fun C A σ H s P Q r p q => by
  refine ha.run C A σ H s _ _ r p fun H1 v bv s1 ⟨d, b, e, hb, px⟩ r1 fr dm br => ?_
  exact ⟨v, .ty n, _, _, b, rfl, .ty n, tyx_of (br.loose r1 e), kit_ty hb, q H1 _ _ s1 px (.plain fr dm r1 (.bl b))⟩⟩
abbrev FO := VS → (Option Int → VS → Prop) → Prop
structure LO (K : PySem.W.Frag) (to : TO) (f : FO) : Prop where
  run : ∀ C A σ H s P Q, R K C A σ H s → f s P → (∀ H' o s', P o s' → R K C A σ H' s' → Fr A s H H' → Dem s s' → Q o H') → to σ H Q
def vNoPart : FO := fun s P => P none s
def vPart (f : FE) : FO := fun s P => f s fun r s1 => ∃ i, r = (.int i, false) ∧ P (some i) s1
theorem lo_no : LO K tNoPart vNoPart := ⟨fun C A σ H s P Q r p q => q H none s p r .refl .refl⟩
theorem lo_part {te : TE} {f : FE} (h : LE K te f) : LO K (tPart te) (vPart f) := ⟨fun C A σ H s P Q r p q => h.run C A σ H s _ _ r p fun H1 v x s1 ⟨i, e, px⟩ o => by
  subst e
  obtain ⟨fr, dm, ⟨r1, rp⟩, _⟩ := o
  cases rp
  exact ⟨i, rfl, q H1 _ s1 px r1 fr dm⟩⟩
def vSl (f : PyData → Option Int → Option Int → KO → Prop) (a : FB) (l h : FO) : FE := fun s P => a s fun x s1 => l s1 fun lo s2 => h s2 fun hi s3 => ∃ d, rsv s3 x = some d ∧ f d lo hi fun r => P r s3
theorem le_sl {te : TE} {tl th : TO} {fa : FB} {fl fh : FO} {r : V → Option Int → Option Int → Hp → VK → Prop} {f : PyData → Option Int → Option Int → KO → Prop} (ho : OpSl K r f) (ha : LB K te fa) (hl : LO K tl fl) (hh : LO K th fh) : LE K (tSl r te tl th) (vSl f fa fl fh) := ⟨fun C A σ H s P Q R0 p q => by
  refine ha.run C A σ H s _ _ R0 p fun H1 v bv s1 p1 R1 fr1 dm1 br => ?_
  refine hl.run C A σ H1 s1 _ _ R1 p1 fun H2 lo s2 p2 R2 fr2 dm2 => ?_
  refine hh.run C A σ H2 s2 _ _ R2 p2 fun H3 hi s3 ⟨d, e, px⟩ R3 fr3 dm3 => ?_
  have F := (fr1.trans dm1 fr2).trans (dm1.trans dm2) fr3
  have D := (dm1.trans dm2).trans dm3
  refine ho _ H3 v d lo hi _ _ R3.mok (((br.keep fr2 dm2).keep fr3 dm3).loose R3 e) px fun H4 w x kx o => q H4 w x s3 kx (.after F D (out_er R3 o))⟩
def vRev (a : FB) : FE := fun s P => a s fun x s1 => ∃ d, rsv s1 x = some d ∧ fRev d fun r => P r s1
theorem le_rev {te : TE} {fa : FB} (ha : LB K te fa) : LE K (tRevA K te) (vRev fa) := ⟨fun C A σ H s P Q R0 p q => by
  refine ha.run C A σ H s _ _ R0 p fun H1 v bv s1 ⟨d, e, px⟩ R1 fr1 dm1 br => ?_
  have l := br.loose R1 e
  cases d <;> first | exact px.elim | skip
  · obtain ⟨a, xs, rfl, ea, ra⟩ := l
    exact ⟨a, xs, rfl, .inl ⟨SqL.of ea, fun p hp => q _ _ _ s1 px (.after fr1 dm1 (out_er R1 (out_lst hp ra.rev)))⟩⟩⟩
def vTup (fa : FA) : FE := fun s P => fa s fun xs s1 => ∃ ds, valsA xs = some ds ∧ ds.length ≤ sizeLine ∧ P (.tuple ds, false) s1
def vLst (fa : FA) : FE := fun s P => fa s fun xs s1 => ∃ ds, valsA xs = some ds ∧ ds.length ≤ sizeLine ∧ P (.list ds, true) s1
theorem le_tup {ta : TA} {fa : FA} (ha : LA K ta fa) : LE K (tTupZ ta) (vTup fa) := ⟨fun C A σ H s P Q R0 p q => by
  refine ha.run C A σ H s _ _ R0 p fun H1 vs bvs s1 ⟨ds, e, hl, px⟩ R1 fr dm brs => ?_
  have ra := repA_vals brs e
  exact ⟨by rw [ra.len]; exact hl, fun p o hp ho => q _ _ _ s1 px (.after fr dm (out_er R1 (out_tup hp ho ra)))⟩⟩
theorem le_lst {ta : TA} {fa : FA} (ha : LA K ta fa) : LE K (tLst ta) (vLst fa) := ⟨fun C A σ H s P Q R0 p q => by
  refine ha.run C A σ H s _ _ R0 p fun H1 vs bvs s1 ⟨ds, e, hl, px⟩ R1 fr dm brs => ?_
  have ra := repA_vals brs e
  exact ⟨by rw [ra.len]; exact hl, fun p hp => q _ _ _ s1 px (.after fr dm (out_er R1 (out_lst hp ra)))⟩⟩
/-- *xs, .. -/
def vStar (f : FE) (fa : FA) : FA := fun s P => f s fun r s1 => ∃ ds, seqOf r.1 = some ds ∧ fa s1 fun xs s2 => P (ds.map .val ++ xs) s2
theorem paired_vals {vs : List V} {ds : List PyData} (r : RepA K (M C A s) H vs ds) : Paired (BR K C A σ H s) vs (ds.map .val) := by
  induction vs generalizing ds with
  | nil => cases r; exact .nil
  | cons v vs ih => cases r with
    | cons a b => exact .cons a (ih b)
theorem la_star {te : TE} {ta : TA} {f : FE} {fa : FA} (h : LE K te f) (ha : LA K ta fa) : LA K (tStar K te ta) (vStar f fa) := ⟨fun C A σ H s P Q R0 p q => by
  refine h.run C A σ H s _ _ R0 p fun H1 v r s1 ⟨ds, e, p1⟩ o => ?_
  obtain ⟨R1, rp⟩ := o.er.fz
  obtain ⟨a, xs, rfl, hs, ra⟩ := loose_seq rp.loose e
  refine ⟨a, xs, rfl, by rcases hs with ⟨_, h⟩ | ⟨_, h⟩ <;> first | exact .inl h.sqt | exact .inr h, ?_⟩
  refine ha.run C A σ H1 s1 _ _ R1 p1 fun H2 vs bvs s2 px R2 fr2 dm2 brs => ?_
  exact q H2 _ _ s2 px R2 (o.fr.trans o.dm fr2) (o.dm.trans dm2) (Paired.app (paired_vals (repA_keep fr2 dm2 ra)) brs)⟩
def rJoinV (K : PySem.W.Frag) : V → List V → Hp → VK → Prop := fun x xs H Q => ∃ a p, ∃ ys : List Str, x = .str a ∧ xs = [.ref p] ∧ (SqL K H p (ys.map V.str) ∨ SqT K H p (ys.map V.str)) ∧
      (ys.map (·.length)).sum + ys.length * a.length ≤ 16777216 ∧ Q (.str (Txt.join a ys)) H
def vJoin (f : FE) (b : FB) : FE := fun s P => f s fun x s1 => ∃ sep, x = (.str sep, false) ∧ b s1 fun y s2 => ∃ e, rsv s2 y = some e ∧ ∃ ys : List Str, seqOf e = some (ys.map .str) ∧ (ys.map (·.length)).sum + ys.length * sep.length ≤ 16777216 ∧ P (.str (Txt.join sep ys), false) s2
theorem le_join {ta tb : TE} {fa : FE} {fb : FB} (ha : LE K ta fa) (hb : LB K tb fb) : LE K (tM1 (rJoinV K) ta tb) (vJoin fa fb) := ⟨fun C A σ H s P Q R0 p q => by
  refine ha.run C A σ H s _ _ R0 p fun H1 v x s1 ⟨sep, e, p1⟩ o => ?_
  subst e
  obtain ⟨fr, dm, ⟨R1, rp⟩, _⟩ := o
  cases rp
  refine ⟨⟨sep, rfl⟩, hb.run C A σ H1 s1 _ _ R1 p1 fun H2 v2 bv s2 ⟨e, he, ys, hs, hl, px⟩ R2 fr2 dm2 br => ?_⟩
  obtain ⟨a, xs, rfl, hq, ra⟩ := loose_seq (br.loose R2 he) hs
  refine ⟨sep, a, ys, rfl, rfl, ?_, hl, q H2 _ _ s2 px (.plain (fr.trans dm fr2) (dm.trans dm2) R2 (.str _))⟩
  rw [← ra.strs]
  rcases hq with ⟨_, h⟩ | ⟨_, h⟩
  · exact .inl h
  · exact .inr h.sqt⟩
def vM1 (g : Str → Str → KO → Prop) (f : FE) (h : FE) : FE := fun s P => f s fun x s1 => ∃ a, x = (.str a, false) ∧ h s1 fun y s2 => ∃ b, y = (.str b, false) ∧ g a b fun r => P r s2
def OpS1 (K : PySem.W.Frag) (r : V → List V → Hp → VK → Prop) (g : Str → Str → KO → Prop) : Prop := ∀ N H a b k Q, g a b k → (∀ H' w x, k x → Out K N H H' w x → Q w H') → r (.str a) [.str b] H Q
theorem le_m1 {ta tb : TE} {fa fb : FE} {r : V → List V → Hp → VK → Prop} {g : Str → Str → KO → Prop} (ho : OpS1 K r g) (ha : LE K ta fa) (hb : LE K tb fb) : LE K (tM1 r ta tb) (vM1 g fa fb) := ⟨fun C A σ H s P Q R0 p q => by
  refine ha.run C A σ H s _ _ R0 p fun H1 v x s1 ⟨a, e, p1⟩ o => ?_
  subst e
  obtain ⟨fr, dm, ⟨R1, rp⟩, _⟩ := o
  cases rp
  refine ⟨⟨a, rfl⟩, hb.run C A σ H1 s1 _ _ R1 p1 fun H2 v2 x2 s2 ⟨b, e, px⟩ o2 => ?_⟩
  subst e
  obtain ⟨fr2, dm2, ⟨R2, rp⟩, _⟩ := o2
  cases rp
  exact ho (M C A s2) H2 a b _ _ px fun H3 w x kx o => q H3 w x s2 kx (.after (fr.trans dm fr2) (dm.trans dm2) (out_er R2 o))⟩
def vM0 (g : Str → KO → Prop) (f : FE) : FE := fun s P => f s fun x s1 => ∃ a, x = (.str a, false) ∧ g a fun r => P r s1
def OpS0 (K : PySem.W.Frag) (r : V → List V → Hp → VK → Prop) (g : Str → KO → Prop) : Prop := ∀ N H a k Q, g a k → (∀ H' w x, k x → Out K N H H' w x → Q w H') → r (.str a) [] H Q
theorem le_m0 {ta : TE} {fa : FE} {r : V → List V → Hp → VK → Prop} {g : Str → KO → Prop} (ho : OpS0 K r g) (ha : LE K ta fa) : LE K (tM0 r ta) (vM0 g fa) := ⟨fun C A σ H s P Q R0 p q => by
  refine ha.run C A σ H s _ _ R0 p fun H1 v x s1 ⟨a, e, p1⟩ o => ?_
  subst e
  obtain ⟨fr, dm, ⟨R1, rp⟩, _⟩ := o
  cases rp
  exact ⟨⟨a, rfl⟩, ho (M C A s1) H1 a _ _ p1 fun H3 w x kx o => q H3 w x s1 kx (.after fr dm (out_er R1 o))⟩⟩
theorem it_walk {J : It} {n : Nat} {G : Hp → Prop} {Y : Nat → Hp → V → Hp → Prop} {ds : List PyData} (w : Walk J n G Y) (hn : n = ds.length)
    (hG : ∀ H', (∀ a o, H a = some o → ¬ N a → H' a = some o) → (∀ a o, H a = some o → ¬ Mut (some o) → H' a = some o) → G H')
    (hY : ∀ (N' : Addr → Prop) H', (∀ a o, H a = some o → ¬ N a → H' a = some o ∧ ¬ N' a) → (∀ a o, H a = some o → ¬ Mut (some o) → H' a = some o) → ∀ (i : Nat) d, ds[i]? = some d → ∀ x H'', Y i H' x H'' → Same H' H'' ∧ Rep K N' H'' x d) : ItR K N H J ds := by
  intro N' H' h1 h2
  have g := hG H' (fun a o e n => (h1 a o e n).1) h2
  refine ⟨by rw [← hn]; exact w.stops H' g, fun i d e => ?_⟩
  have hi : i < n := by rw [hn]; exact (List.getElem?_eq_some_iff.mp e).1
  exact ⟨w.goes i H' hi g, fun x H'' y => hY N' H' h1 h2 i d e x H'' (w.yields i H' x H'' hi g y)⟩
def rgD (lo : Int) (n : Nat) : List PyData := (List.range n).map fun i => .int (lo + (i : Nat))
theorem it_range {lo : Int} {n : Nat} : ItR K N H (Itr lo n) (rgD lo n) := it_walk walk_range (by unfold rgD; simp) (fun _ _ _ => trivial) fun N' H' h1 h2 i d e x H'' y => by
  obtain ⟨rfl, rfl⟩ := y
  unfold rgD at e
  rw [List.getElem?_map] at e
  obtain ⟨j, ej, rfl⟩ := Option.map_eq_some_iff.mp e
  have : j = i := by
    have hl := (List.getElem?_eq_some_iff.mp ej).1
    rw [List.length_range] at hl
    rw [List.getElem?_range hl] at ej
    exact (Option.some.inj ej).symm
  subst this
  exact ⟨fun _ _ e => e, .int _⟩
def vRng1 (fa : FA) : FI := fun s P => fa s fun xs s1 => ∃ j, rsvA s1 xs = some [.int j] ∧ -(2 ^ 62) ≤ j ∧ j < 2 ^ 62 ∧ P (rgD 0 j.toNat) s1
def vRng2 (fa : FA) : FI := fun s P => fa s fun xs s1 => ∃ i j, rsvA s1 xs = some [.int i, .int j] ∧ (-(2 ^ 62) ≤ i ∧ i < 2 ^ 62 ∧ -(2 ^ 62) ≤ j ∧ j < 2 ^ 62) ∧ P (rgD i (j - i).toNat) s1
theorem li_rng1 {ta : TA} {fa : FA} (ha : LA K ta fa) : LI K (iRng1 ta) (vRng1 fa) := ⟨fun C A σ H s P Q R0 p q => by
  refine ha.run C A σ H s _ _ R0 p fun H1 vs bvs s1 ⟨j, e, h1, h2, px⟩ R1 fr dm brs => ?_
  obtain ⟨v, rfl, h⟩ := la1 (looseA R1 brs e)
  cases h
  exact ⟨j, rfl, h1, h2, q H1 _ _ s1 px R1 fr dm it_range⟩⟩
theorem li_rng2 {ta : TA} {fa : FA} (ha : LA K ta fa) : LI K (iRng2 ta) (vRng2 fa) := ⟨fun C A σ H s P Q R0 p q => by
  refine ha.run C A σ H s _ _ R0 p fun H1 vs bvs s1 ⟨i, j, e, h, px⟩ R1 fr dm brs => ?_
  obtain ⟨u, v, rfl, h1, h2⟩ := la2 (looseA R1 brs e)
  cases h1
  cases h2
  exact ⟨i, j, rfl, h, q H1 _ _ s1 px R1 fr dm it_range⟩⟩
theorem lst_stays {xs : List V} {N : Addr → Prop} (n : ¬ N a) (e : H a = some (.lst xs)) (h : ∀ a o, H a = some o → ¬ N a → H' a = some o) : SqL K H' a xs := SqL.of (h _ _ e n)
def vItL (f : FE) : FI := fun s P => f s fun r s1 => ∃ ds, r.1 = .list ds ∧ P ds s1
def vItT (f : FE) : FI := fun s P => f s fun r s1 => ∃ ds, r.1 = .tuple ds ∧ P ds s1
theorem li_lst {tl : TE} {f : FE} (h : LE K tl f) : LI K (iList K tl) (vItL f) := ⟨fun C A σ H s P Q R0 p q => by
  refine h.run C A σ H s _ _ R0 p fun H1 v r s1 ⟨ds, e, px⟩ o => ?_
  obtain ⟨R1, rp⟩ := o.er.fz
  rw [e] at rp
  cases rp with
  | lst n ea ra =>
    refine ⟨_, rfl, ⟨_, SqL.of ea⟩, q H1 _ ds s1 px R1 o.fr o.dm (it_walk walk_list ra.len (fun H' h1 _ => lst_stays n ea h1) fun N' H' h1 h2 i d ed x H'' y => ?_)⟩
    obtain ⟨rfl, ex⟩ := y
    obtain ⟨w, ew, rw'⟩ := ra.get ed
    rw [ew] at ex; cases ex
    exact ⟨fun _ _ e => e, Rep.go (fun _ _ e => sqt_of h2 e) h1 _ _ rw'⟩⟩
theorem li_tup {tl : TE} {f : FE} (h : LE K tl f) : LI K (iTup K tl) (vItT f) := ⟨fun C A σ H s P Q R0 p q => by
  refine h.run C A σ H s _ _ R0 p fun H1 v r s1 ⟨ds, e, px⟩ o => ?_
  obtain ⟨R1, rp⟩ := o.er.fz
  rw [e] at rp
  cases rp with
  | tup ea ra =>
    refine ⟨_, rfl, ⟨_, ea.sqt⟩, q H1 _ ds s1 px R1 o.fr o.dm (it_walk walk_tup ra.len (fun H' _ h2 => (ea.go fun _ _ e => sqt_of h2 e).sqt) fun N' H' h1 h2 i d ed x H'' y => ?_)⟩
    obtain ⟨rfl, ex⟩ := y
    obtain ⟨w, ew, rw'⟩ := ra.get ed
    rw [ew] at ex; cases ex
    exact ⟨fun _ _ e => e, Rep.go (fun _ _ e => sqt_of h2 e) h1 _ _ rw'⟩⟩
def sgD (z : Str) : List PyData := z.cps.toList.map fun c => .str ⟨#[c]⟩
def vItS (f : FE) : FI := fun s P => f s fun r s1 => ∃ z, r.1 = .str z ∧ P (sgD z) s1
theorem li_str {tl : TE} {f : FE} (h : LE K tl f) : LI K (iStr tl) (vItS f) := ⟨fun C A σ H s P Q R0 p q => by
  refine h.run C A σ H s _ _ R0 p fun H1 v r s1 ⟨z, e, px⟩ o => ?_
  obtain ⟨R1, rp⟩ := o.er.fz
  rw [e] at rp
  cases rp
  refine ⟨z, rfl, q H1 _ _ s1 px R1 o.fr o.dm (it_walk walk_str (by unfold sgD; simp) (fun _ _ _ => trivial) fun N' H' h1 h2 i d ed x H'' y => ?_)⟩
  obtain ⟨rfl, c, ec, rfl⟩ := y
  unfold sgD at ed
  rw [List.getElem?_map] at ed
  obtain ⟨c', ec', rfl⟩ := Option.map_eq_some_iff.mp ed
  have : c' = c := by
    rw [Array.getElem?_toList] at ec'
    exact Option.some.inj (ec'.symm.trans ec)
  subst this
  exact ⟨fun _ _ e => e, .str _⟩⟩
theorem it_pair {J : It} {n : Nat} {G : Hp → Prop} {f g : Nat → Option V} {ds es : List PyData} (w : Walk J n G (YPairZ f g)) (hn : n = (ds.zip es).length)
    (hG : ∀ H', (∀ a o, H a = some o → ¬ N a → H' a = some o) → (∀ a o, H a = some o → ¬ Mut (some o) → H' a = some o) → G H')
    (hf : ∀ (i : Nat) d, ds[i]? = some d → ∃ x, f i = some x ∧ Rep K N H x d) (hg : ∀ (i : Nat) d, es[i]? = some d → ∃ x, g i = some x ∧ Rep K N H x d) : ItR K N H J ((ds.zip es).map fun p => .tuple [p.1, p.2]) :=
  it_walk w (by rw [List.length_map]; exact hn) hG fun N' H' h1 h2 i d ed x H'' y => by
    obtain ⟨T, ob, x1, x2, rfl, hT, hob, rfl, e1, e2⟩ := y
    rw [List.getElem?_map] at ed
    obtain ⟨⟨d1, d2⟩, ez, rfl⟩ := Option.map_eq_some_iff.mp ed
    rw [List.getElem?_zip_eq_some] at ez
    obtain ⟨y1, q1, r1⟩ := hf i d1 ez.1
    obtain ⟨y2, q2, r2⟩ := hg i d2 ez.2
    rw [q1] at e1; cases e1
    rw [q2] at e2; cases e2
    have go : ∀ {v d}, Rep K N H v d → Rep K N' H' v d := fun r => Rep.go (fun _ _ e => sqt_of h2 e) h1 _ _ r
    exact ⟨same_upd hT, .tup (.inl ⟨ob, upd_same, hob⟩) (.cons (rep_same (same_upd hT) (go r1)) (.cons (rep_same (same_upd hT) (go r2)) .nil))⟩
def enD (ds : List PyData) : List PyData := ((rgD 0 ds.length).zip ds).map fun p => .tuple [p.1, p.2]
theorem rg_get {lo : Int} {n i : Nat} {d : PyData} (e : (rgD lo n)[i]? = some d) : d = .int (lo + (i : Nat)) := by
  unfold rgD at e
  rw [List.getElem?_map] at e
  obtain ⟨j, ej, rfl⟩ := Option.map_eq_some_iff.mp e
  have hl := (List.getElem?_eq_some_iff.mp ej).1
  rw [List.length_range] at hl
  rw [List.getElem?_range hl] at ej
  cases ej; rfl
theorem rg_len (lo : Int) (n : Nat) : (rgD lo n).length = n := by unfold rgD; simp
def vEnL (f : FB) : FI := fun s P => f s fun x s1 => ∃ ds, x = .val (.list ds) ∧ P (enD ds) s1
def vEnT (f : FB) : FI := fun s P => f s fun x s1 => ∃ ds, x = .val (.tuple ds) ∧ P (enD ds) s1
theorem li_enumT {te : TE} {f : FB} (h : LB K te f) : LI K (iEnumZ K (tCons te tNil)) (vEnT f) := ⟨fun C A σ H s P Q R0 p q => by
  refine h.run C A σ H s _ _ R0 p fun H1 v bv s1 ⟨ds, e, px⟩ R1 fr dm br => ?_
  subst e
  cases (show Rep K _ H1 v (.tuple ds) from br) with
  | tup ea ra =>
    rename_i a xs
    refine ⟨a, xs, rfl, ea.sqt, q H1 _ _ s1 px R1 fr dm (it_pair walk_enumZ (by rw [List.length_zip, rg_len, ra.len, Nat.min_self]) (fun H' _ h2 => (ea.go fun _ _ e => sqt_of h2 e).sqt) (fun i d e => ⟨_, rfl, ?_⟩) fun i d e => ra.get e)⟩
    rw [rg_get e, Int.zero_add]; exact .int _⟩
def zpD (ds es : List PyData) : List PyData := (ds.zip es).map fun p => .tuple [p.1, p.2]
def vZip (f g : FB) : FI := fun s P => f s fun x s1 => g s1 fun y s2 => (∃ ds es, x = .val (.list ds) ∧ y = .val (.list es) ∧ P (zpD ds es) s2) ∨ ∃ ds es, x = .val (.tuple ds) ∧ y = .val (.tuple es) ∧ P (zpD ds es) s2
def vLRg1 (f : FE) : FE := fun s P => f s fun r s1 => ∃ n, r = (.int n, false) ∧ RgOk 0 n ∧ P (.list (rgD 0 n.toNat), true) s1
def vTRg1 (f : FE) : FE := fun s P => f s fun r s1 => ∃ n, r = (.int n, false) ∧ RgOk 0 n ∧ P (.tuple (rgD 0 n.toNat), false) s1
theorem rgV_rep {lo hi : Int} : RepA K N H (rgV lo hi) (rgD lo (hi - lo).toNat) := by
  unfold rgV rgD
  generalize List.range (hi - lo).toNat = l
  induction l with
  | nil => exact .nil
  | cons i l ih => exact .cons (.int _) ih
theorem le_lrg1 {te : TE} {f : FE} (h : LE K te f) : LE K (tLstRg (tRg1 te)) (vLRg1 f) := ⟨fun C A σ H s P Q R0 p q => by
  refine h.run C A σ H s _ _ R0 p fun H1 v x s1 ⟨n, e, ok, px⟩ o => ?_
  subst e
  obtain ⟨fr, dm, ⟨R1, rp⟩, _⟩ := o
  cases rp
  refine ⟨n, rfl, ok, fun p hp => q _ _ _ s1 px (.after fr dm (out_er R1 (out_lst hp ?_)))⟩
  have := rgV_rep (K := K) (N := M C A s1) (H := H1) (lo := 0) (hi := n)
  rw [Int.sub_zero] at this
  exact this⟩
def vAug (g : Int → Int → Int) (i : Nat) (f : FE) : FS := fun s E => (∃ a : Int, s[i]? = some (.fz (.int a))) ∧ f s fun r s1 => ∃ a b : Int, s[i]? = some (.fz (.int a)) ∧ r = (.int b, false) ∧ E.nx (s1.set i (.fz (.int (g a b))))
theorem ls_aug {te : TE} {f : FE} {i : Nat} {g : Int → Int → Int} (h : LE K te f) : LS K (tAug i te (ipI g)) (vAug g i f) := ⟨fun C A σ H s E D r ⟨⟨a0, e0⟩, p⟩ hn hr hb hc => by
  obtain ⟨v, ev, rv⟩ := r.fz i _ e0
  cases rv
  refine ⟨_, ev, h.run C A σ H s _ _ r p fun H' v x s' ⟨a, b, ea, eb, px⟩ o => ?_⟩
  rw [e0] at ea; cases ea
  subst eb
  obtain ⟨fr, dm, ⟨r', rp⟩, _⟩ := o
  cases rp
  exact ⟨_, _, rfl, rfl, hn A _ H' _ px (r'.setFz (.int _)) (.of_fr fr (dm.trans (dem_set fun _ z => nomatch z)))⟩⟩
def vSetL (f : FE) (i : Nat) (g : FE) : FS := fun s E => f s fun r s1 => (∃ ds, s1[i]? = some (.ow (.list ds))) ∧ g s1 fun x s2 => ∃ (k : Int) (ds : List PyData) (j : Nat), x = (.int k, false) ∧ s2[i]? = some (.ow (.list ds)) ∧ ixN ds.length k = some j ∧ E.nx (s2.set i (.ow (.list (ds.set j r.1))))
theorem ls_setL {te ti : TE} {f g : FE} {i : Nat} (h : LE K te f) (h2 : LE K ti g) : LS K (tAsg te (gSub (tVar i) ti rSetL)) (vSetL f i g) := ⟨fun C A σ H s E D r p hn hr hb hc => by
  refine h.run C A σ H s _ _ r p fun H1 v x s1 ⟨⟨ds0, e0⟩, p1⟩ o => ?_
  obtain ⟨r1, rp1⟩ := o.er.fz
  obtain ⟨g1, _⟩ := r1.ow i _ e0
  refine ⟨_, g1, h2.run C A σ H1 s1 _ _ r1 p1 fun H2 w y s2 ⟨k, ds, j, ey, e2, hj, px⟩ o2 => ?_⟩
  subst ey
  obtain ⟨fr2, dm2, ⟨r2, rp⟩, _⟩ := o2
  cases rp
  have rv := rep_keep fr2 dm2 rp1
  obtain ⟨_, ow2, _⟩ := r2.ow i _ e2
  obtain ⟨b, ys, eb, hy, ry⟩ := ow2.2
  cases eb
  refine ⟨A.ad i, ys, k, j, rfl, rfl, hy, by rw [ry.len]; exact hj, ?_⟩
  have ow : Own K (M C A s2) (upd H2 (A.ad i) (.lst (ys.set j v))) (.list (ds.set j x.1)) (A.ad i) := by
    refine ⟨rfl, _, _, rfl, upd_same, RepA.go (fun _ _ e => sqt_of (fun b u q m => ?_) e) (fun b u q m => ⟨?_, m⟩) _ _ (ry.set j rv)⟩
    · by_cases z : b = A.ad i
      · rw [z, hy] at q; cases q; exact absurd trivial m
      · rw [upd_ne z]; exact q
    · rw [upd_ne fun z => m (.inr (.inr ⟨i, _, e2, z.symm⟩))]; exact q
  obtain ⟨r3, f3, d3, meq, rep⟩ := r2.putO e2 ow
  exact hn A σ _ _ px r3 (.of_fr (((o.fr.trans o.dm fr2).trans (o.dm.trans dm2) f3)) ((o.dm.trans dm2).trans d3))⟩
def vAugL (g : Int → Int → Int) (i : Nat) (fi fe : FE) : FS := fun s E => (∃ ds, s[i]? = some (.ow (.list ds))) ∧ fi s fun x s1 => ∃ (k : Int) (ds : List PyData) (j : Nat) (a : Int), x = (.int k, false) ∧ s1[i]? = some (.ow (.list ds)) ∧ 0 ≤ k ∧ ixN ds.length k = some j ∧ ds[j]? = some (.int a) ∧
  fe s1 fun y s2 => ∃ (b : Int) (es : List PyData), y = (.int b, false) ∧ s2[i]? = some (.ow (.list es)) ∧ es.length = ds.length ∧ E.nx (s2.set i (.ow (.list (es.set j (.int (g a b))))))
theorem ls_augL {ti te : TE} {fi fe : FE} {i : Nat} {g : Int → Int → Int} (h : LE K ti fi) (h2 : LE K te fe) : LS K (tAugS (tVar i) ti te (rGetL K) (ipI g) rSetL) (vAugL g i fi fe) := ⟨fun C A σ H s E D r ⟨⟨ds0, e0⟩, p⟩ hn hr hb hc => by
  obtain ⟨g0, _⟩ := r.ow i _ e0
  refine ⟨_, g0, h.run C A σ H s _ _ r p fun H1 v x s1 ⟨k, ds, j, a, ex, e1, hk, hj, hd, p1⟩ o => ?_⟩
  subst ex
  obtain ⟨fr1, dm1, ⟨r1, rp⟩, _⟩ := o
  cases rp
  obtain ⟨_, ow1, _⟩ := r1.ow i _ e1
  obtain ⟨b, ys, eb, hy, ry⟩ := ow1.2
  cases eb
  obtain ⟨w, ew, rw'⟩ := ry.get hd
  cases rw'
  have ea : atI ys k = some (V.int a) := by unfold atI; rw [ry.len, hj]; exact ew
  refine ⟨A.ad i, ys, k, _, rfl, rfl, SqL.of hy, hk, ea, h2.run C A σ H1 s1 _ _ r1 p1 fun H2 w y s2 ⟨b, es, ey, e2, hl, px⟩ o2 => ?_⟩
  subst ey
  obtain ⟨fr2, dm2, ⟨r2, rp⟩, _⟩ := o2
  cases rp
  obtain ⟨_, ow2, _⟩ := r2.ow i _ e2
  obtain ⟨b', zs, eb', hz, rz⟩ := ow2.2
  cases eb'
  refine ⟨_, _, rfl, rfl, A.ad i, zs, k, j, rfl, rfl, hz, by rw [rz.len, hl]; exact hj, ?_⟩
  have ow : Own K (M C A s2) (upd H2 (A.ad i) (.lst (zs.set j (.int (g a b))))) (.list (es.set j (.int (g a b)))) (A.ad i) := by
    refine ⟨rfl, _, _, rfl, upd_same, RepA.go (fun _ _ e => sqt_of (fun b u q m => ?_) e) (fun b u q m => ⟨?_, m⟩) _ _ (rz.set j (.int _))⟩
    · by_cases z : b = A.ad i
      · rw [z, hz] at q; cases q; exact absurd trivial m
      · rw [upd_ne z]; exact q
    · rw [upd_ne fun z => m (.inr (.inr ⟨i, _, e2, z.symm⟩))]; exact q
  obtain ⟨r3, f3, d3, meq, rep⟩ := r2.putO e2 ow
  exact hn A σ _ _ px r3 (.of_fr (((fr1.trans dm1 fr2).trans (dm1.trans dm2) f3)) ((dm1.trans dm2).trans d3))⟩
end
end EV
namespace EV
open PySem PySem.Spec PyProof.Rows L2 D0
section
variable {K : PySem.W.Frag} {C : VC} {A A' A1 A2 : Dy} {σ σ' : L2.St} {H H' H1 H2 : Hp} {s s' s1 s2 : VS} {v : V} {d : PyData} {a : Addr} {N N' : Addr → Prop} {Q : VK}
/-- a dict whose keys are tuples -/
def tdD (es : List (PyData × PyData)) : PyData := .dict (es ++ [(.none, .none)])
def keyOf : PyData → Option Key
  | .int i => some (.inl i)
  | .str x => some (.inr x)
  | _ => none
def keysOf : List PyData → Option (List Key)
  | [] => some []
  | d :: ds => match keyOf d, keysOf ds with
    | some k, some ks => some (k :: ks)
    | _, _ => none
theorem keyOf_eq {k : Key} (h : keyOf d = some k) : d = keyD k := by
  cases d <;> cases h <;> rfl
theorem keysOf_eq : ∀ {ds : List PyData} {ks : List Key}, keysOf ds = some ks → ds = ks.map keyD
  | [], _, h => by cases h; rfl
  | d :: ds, ks, h => by
    unfold keysOf at h
    split at h
    · rename_i k ks' e1 e2
      cases h
      rw [keyOf_eq e1, keysOf_eq e2]; rfl
    · cases h
theorem keyD_inj {k l : Key} (h : keyD k = keyD l) : k = l := by
  cases k <;> cases l <;> cases h <;> rfl
theorem keyT_inj {k l : List Key} (h : keyT k = keyT l) : k = l := by
  replace h : k.map keyD = l.map keyD := PyData.tuple.inj h
  induction k generalizing l with
  | nil => cases l with
    | nil => rfl
    | cons _ _ => cases h
  | cons x k ih => cases l with
    | nil => cases h
    | cons y l =>
      rw [List.map_cons, List.map_cons] at h
      injection h with h1 h2
      rw [keyD_inj h1, ih h2]
theorem rep_keyD {k : Key} (h : Loose K N H v (keyD k)) : v = kV k := by
  cases k <;> cases h <;> rfl
theorem repA_keys : ∀ {vs : List V} {ks : List Key}, RepA K N H vs (ks.map keyD) → vs = ks.map kV
  | _, [], h => by cases h; rfl
  | _, k :: ks, h => by
    cases h with
    | cons a b => rw [rep_keyD a.loose, repA_keys b]; rfl
/-- what stands at a key -/
def lookD (es : List (PyData × PyData)) (k : PyData) : Option PyData := match es with
  | [] => none
  | (k', d) :: r => if PyData.eqv k' k = true then some d else lookD r k
theorem eqv_keyD (k l : Key) : PyData.eqv (keyD k) (keyD l) = decide (k = l) := by
  cases k with
  | inl i => cases l with
    | inl j => rw [key_ll]; rfl
    | inr y => rw [key_lr]; rfl
  | inr x => cases l with
    | inl j => rw [key_rl]; rfl
    | inr y =>
      rw [key_rr]
      show (x == y) = _
      by_cases h : x = y <;> simp [h]
theorem eqvA_keys : ∀ k l : List Key, PyData.eqvAll (k.map keyD) (l.map keyD) = decide (k = l)
  | [], [] => rfl
  | [], _ :: _ => rfl
  | _ :: _, [] => rfl
  | x :: k, y :: l => by
    show (PyData.eqv (keyD x) (keyD y) && PyData.eqvAll (k.map keyD) (l.map keyD)) = _
    rw [eqv_keyD, eqvA_keys k l]
    by_cases h : x = y <;> by_cases h2 : k = l <;> simp [h, h2]
theorem eqv_keyT (k l : List Key) : PyData.eqv (keyT k) (keyT l) = decide (k = l) := eqvA_keys k l
def ORep (K : PySem.W.Frag) (N : Addr → Prop) (H : Hp) : Option V → Option PyData → Prop
  | some v, some d => Rep K N H v d
  | none, none => True
  | _, _ => False
theorem look_k : ∀ {kvs : List (Key × V)} {es : List (PyData × PyData)} (k : Key), RepK K N H kvs es → ORep K N H (valV kvs k) (lookD es (keyD k))
  | _, _, _, .nil => trivial
  | _, _, k, .cons (k := k') (v := v) h t => by
    unfold lookD
    rw [eqv_keyD]
    by_cases e : k' = k
    · rw [valV_pos e, if_pos (by simpa using e)]; exact h
    · rw [valV_neg e, if_neg (by simpa using e)]; exact look_k k t
theorem look_t : ∀ {kvs : List (List Key × V)} {es : List (PyData × PyData)} (k : List Key), RepT K N H kvs es → ORep K N H (valV kvs k) (lookD es (keyT k))
  | _, _, k, .nil => by
    unfold lookD
    rw [if_neg (by simp [keyT, PyData.eqv])]
    exact trivial
  | _, _, k, .cons (k := k') (v := v) h t => by
    unfold lookD
    rw [eqv_keyT]
    by_cases e : k' = k
    · rw [valV_pos e, if_pos (by simpa using e)]; exact h
    · rw [valV_neg e, if_neg (by simpa using e)]; exact look_t k t
/-- k is a key of the dict's own kind -/
def kindOk : List (PyData × PyData) → PyData → Bool
  | [], k => (keyOf k).isSome
  | [(.none, _)], .tuple _ => false
  | (.tuple _, _) :: r, k => kindOk r k
  | (.int _, _) :: r, k => kindOk r k
  | (.str _, _) :: r, k => kindOk r k
  | _, _ => false
theorem kind_t : ∀ {kvs : List (List Key × V)} {es : List (PyData × PyData)}, RepT K N H kvs es → kindOk es d = true → ∃ ks, d = keyT ks ∧ constS (ks.map keyD) = false
  | _, _, .nil, h => by
    cases d <;> simp [kindOk] at h
  | _, _, .cons (k := k) (ds := ds) _ t, h => by
    have h : kindOk ((PyData.tuple (k.map keyD), _) :: ds) d = true := h
    have : kindOk ds d = true := by cases ds <;> simpa [kindOk] using h
    exact kind_t t this
theorem kind_f : ∀ {kvs : List (List Key × V)} {es : List (PyData × PyData)}, RepT K N H kvs es → kindOk es d = false
  | _, _, .nil => by cases d <;> rfl
  | _, _, .cons (k := k) (ds := ds) _ t => by
    have h := kind_f t
    show kindOk ((PyData.tuple (k.map keyD), _) :: ds) d = false
    cases ds with
    | nil => cases t
    | cons e es => cases d <;> simpa [kindOk] using h
theorem kind_k : ∀ {kvs : List (Key × V)} {es : List (PyData × PyData)}, RepK K N H kvs es → kindOk es d = true → ∃ k, d = keyD k
  | _, _, .nil, h => by
    obtain ⟨k, e⟩ := Option.isSome_iff_exists.mp (by simpa [kindOk] using h)
    exact ⟨k, keyOf_eq e⟩
  | _, _, .cons (k := k) (ds := ds) _ t, h => by
    have : kindOk ds d = true := by cases k <;> cases ds <;> simpa [keyD, kindOk] using h
    exact kind_k t this
theorem dget_of {es : List (PyData × PyData)} {y : V} (hd : Loose K N H v (.dict es)) (hy : Loose K N H y d) (ok : kindOk es d = true) : ∃ a o, v = .ref a ∧ IsD H a ∧ DGet H a y o ∧ ORep K N H o (lookD es d) := by
  obtain ⟨a, rfl, ⟨kvs, e, r⟩ | ⟨kvs, e, r⟩⟩ := hd
  · obtain ⟨k, rfl⟩ := kind_k r ok
    rw [rep_keyD hy]
    exact ⟨a, _, rfl, .inl ⟨_, .inl e⟩, DGet.k e, look_k k r⟩
  · exact absurd ok (by rw [kind_f r]; exact Bool.false_ne_true)
/-- d[k], there -/
def vDGet (fd fk : FB) : FE := fun s P => fd s fun x s1 => fk s1 fun y s2 => ∃ es k r, rsv s2 x = some (.dict es) ∧ rsv s2 y = some k ∧ kindOk es k = true ∧ lookD es k = some r ∧ P (r, false) s2
theorem le_dget {td ty : TE} {fd fk : FB} (hd : LB K td fd) (hk : LB K ty fk) : LE K (tDGet td ty) (vDGet fd fk) := ⟨fun C A σ H s P Q R0 p q => by
  refine hd.run C A σ H s _ _ R0 p fun H1 v bv s1 p1 R1 fr dm br => ?_
  refine hk.run C A σ H1 s1 _ _ R1 p1 fun H2 w bw s2 ⟨es, k, r, e1, e2, ok, el, px⟩ R2 fr2 dm2 br2 => ?_
  obtain ⟨a, o, rfl, _, g, or⟩ := dget_of ((br.keep fr2 dm2).loose R2 e1) (br2.loose R2 e2) ok
  rw [el] at or
  cases o with
  | none => exact or.elim
  | some z => exact ⟨a, z, rfl, g, q H2 z _ s2 px (.plain (fr.trans dm fr2) (dm.trans dm2) R2 or)⟩⟩
def vDIn (neg : Bool) (fk fd : FB) : FE := fun s P => fk s fun y s1 => fd s1 fun x s2 => ∃ es k, rsv s2 x = some (.dict es) ∧ rsv s2 y = some k ∧ kindOk es k = true ∧ P (.bool (if neg then !(lookD es k).isSome else (lookD es k).isSome), false) s2
theorem orep_some {o : Option V} {r : Option PyData} (h : ORep K N H o r) : o.isSome = r.isSome := by
  cases o <;> cases r <;> first | rfl | exact h.elim
theorem le_din {td ty : TE} {fd fk : FB} (hk : LB K ty fk) (hd : LB K td fd) : LE K (tDIn ty td) (vDIn false fk fd) := ⟨fun C A σ H s P Q R0 p q => by
  refine hk.run C A σ H s _ _ R0 p fun H1 v bv s1 p1 R1 fr dm br => ?_
  refine hd.run C A σ H1 s1 _ _ R1 p1 fun H2 w bw s2 ⟨es, k, e1, e2, ok, px⟩ R2 fr2 dm2 br2 => ?_
  obtain ⟨a, o, rfl, _, g, or⟩ := dget_of (br2.loose R2 e1) ((br.keep fr2 dm2).loose R2 e2) ok
  exact ⟨a, o, rfl, g, q H2 _ _ s2 (by rw [orep_some or]; exact px) (.plain (fr.trans dm fr2) (dm.trans dm2) R2 (.bl _))⟩⟩
theorem le_dnin {td ty : TE} {fd fk : FB} (hk : LB K ty fk) (hd : LB K td fd) : LE K (tDNotIn ty td) (vDIn true fk fd) := ⟨fun C A σ H s P Q R0 p q => by
  refine hk.run C A σ H s _ _ R0 p fun H1 v bv s1 p1 R1 fr dm br => ?_
  refine hd.run C A σ H1 s1 _ _ R1 p1 fun H2 w bw s2 ⟨es, k, e1, e2, ok, px⟩ R2 fr2 dm2 br2 => ?_
  obtain ⟨a, o, rfl, _, g, or⟩ := dget_of (br2.loose R2 e1) ((br.keep fr2 dm2).loose R2 e2) ok
  exact ⟨a, o, rfl, g, q H2 _ _ s2 (by rw [orep_some or]; exact px) (.plain (fr.trans dm fr2) (dm.trans dm2) R2 (.bl _))⟩⟩
theorem out_dK {p : Addr} {kvs : List (Key × V)} {es : List (PyData × PyData)} (n : H p = none) (r : RepK K N H kvs es) : Out K N H (upd H p (.dK kvs)) (.ref p) (.dict es, true) :=
  ⟨same_upd n, p, rfl, n, rfl, _, rfl, .inl ⟨_, upd_same, RepK.go (fun _ _ => sqt_same (same_upd n)) (fun b o e m => ⟨same_upd n b o e, fun z => z.elim m fun q => by subst q; rw [n] at e; cases e⟩) _ _ r⟩⟩
theorem out_dT {p : Addr} {kvs : List (List Key × V)} {es : List (PyData × PyData)} (n : H p = none) (r : RepT K N H kvs es) : Out K N H (upd H p (.dT kvs)) (.ref p) (.dict es, true) :=
  ⟨same_upd n, p, rfl, n, rfl, _, rfl, .inr ⟨_, upd_same, RepT.go (fun _ _ => sqt_same (same_upd n)) (fun b o e m => ⟨same_upd n b o e, fun z => z.elim m fun q => by subst q; rw [n] at e; cases e⟩) _ _ r⟩⟩
def vDNewK : FE := fun s P => P (.dict [], true) s
def vDNewT : FE := fun s P => P (tdD [], true) s
theorem le_dnewK : LE K tDNewK vDNewK := ⟨fun C A σ H s P Q R0 p q => fun a ha => q _ _ _ s p (out_er R0 (out_dK ha .nil))⟩
theorem le_dnewT : LE K tDNewT vDNewT := ⟨fun C A σ H s P Q R0 p q => fun a ha => q _ _ _ s p (out_er R0 (out_dT ha .nil))⟩
/-- a thing that the frozen do not see is changed -/
theorem R.putD {o u : HO} (r : R K C A σ H s) (n : C.N a) (h0 : C.H0 a = none) (e : H a = some u) (mu : Mut (some u) := by trivial) : R K C A σ (upd H a o) s := by
  have ht : ∀ b u, H b = some u → ¬ Mut (some u) → upd H a o b = some u := fun b u q m => by
    by_cases z : b = a
    · subst z; rw [e] at q; cases q; exact absurd mu m
    · rw [upd_ne z]; exact q
  have hl : ∀ b u, H b = some u → ¬ M C A s b → upd H a o b = some u ∧ ¬ M C A s b := fun b u q m => by
    refine ⟨?_, m⟩
    rw [upd_ne fun z => m (.inl (by rw [z]; exact n))]; exact q
  refine ⟨fun b z => ?_, fun b u q m => ?_, fun b c q => ?_, fun i d q => ?_, fun i d q => ?_, r.di, r.bs, r.ln⟩
  · by_cases y : b = a
    · rw [y, upd_same]; exact fun z => nomatch z
    · rw [upd_ne y]; exact r.nn b z
  · rw [upd_ne fun z => by rw [z, h0] at q; cases q]; exact r.fr b u q m
  · obtain ⟨⟨cs, B⟩, g1, g2⟩ := r.bg b c q
    exact ⟨⟨cs, B.put (fun z => g1 (z ▸ n)) fun z => g2 (z ▸ n)⟩, g1, g2⟩
  · obtain ⟨v, q1, q2⟩ := r.fz i d q
    exact ⟨v, q1, Rep.go (fun _ _ e => sqt_of ht e) hl _ _ q2⟩
  · obtain ⟨g1, g2, g3, g4, g5⟩ := r.ow i d q
    refine ⟨g1, ⟨g2.1, Loose.go (fun _ _ e => sqt_of ht e) hl (fun b u y _ z => ?_) g2.2⟩, g3, g4, g5⟩
    cases y
    rw [upd_ne fun y => g4 (by rw [y]; exact n)]; exact z
/-- {k: v, ..}, all keys apart -/
def vPairs : List (FE × FE) → List (PyData × PyData) → VS → (List (PyData × PyData) → VS → Prop) → Prop
  | [], acc, s, P => P acc s
  | (fk, fv) :: r, acc, s, P => fk s fun k s1 => fv s1 fun v s2 => vPairs r (acc ++ [(k.1, v.1)]) s2 P
def vDisp (fs : List (FE × FE)) : FE := fun s P => vPairs fs [] s fun es s' => ∃ ks : List Key, es.map Prod.fst = ks.map keyD ∧ ks.Nodup ∧ es.length ≤ 15 ∧ P (.dict es, true) s'
inductive LPs (K : PySem.W.Frag) : List (TE × TE) → List (FE × FE) → Prop
  | nil : LPs K [] []
  | cons {tk tv : TE} {fk fv : FE} {ts : List (TE × TE)} {fs : List (FE × FE)} : LE K tk fk → LE K tv fv → LPs K ts fs → LPs K ((tk, tv) :: ts) ((fk, fv) :: fs)
theorem merge_new : ∀ (kvs : List (Key × V)) (acc : List (Key × V)), ((acc ++ kvs).map Prod.fst).Nodup → mergeK acc kvs = acc ++ kvs
  | [], acc, _ => by simp [mergeK]
  | (k, v) :: kvs, acc, h => by
    have hn : (acc.any fun kv => decide (kv.1 = k)) = false := by
      rw [List.any_eq_false]
      intro x hx e
      rw [List.map_append, List.nodup_append] at h
      exact h.2.2 x.1 (List.mem_map_of_mem hx) k (by simp) (by simpa using e)
    show mergeK (putK acc k v) kvs = _
    unfold putK
    rw [if_neg (by rw [hn]; simp), merge_new kvs _ (by simpa using h)]
    simp
theorem pairs_run {D : Addr} : ∀ {ts : List (TE × TE)} {fs : List (FE × FE)}, LPs K ts fs → ∀ {C : VC} {A : Dy} {σ : L2.St} {H : Hp} {s : VS} {acc : List (PyData × PyData)} {P : List (PyData × PyData) → VS → Prop} {Q : List (V × V) → Hp → Prop}, R K (C.add D) A σ H s → ¬ C.N D → H D = some (.dK []) → vPairs fs acc s P →
    (∀ H' ps es s', P (acc ++ es) s' → R K (C.add D) A σ H' s' → Fr A s H H' → Dem s s' → H' D = some (.dK []) → Paired (fun (p : V × V) (e : PyData × PyData) => Rep K (M (C.add D) A s') H' p.1 e.1 ∧ Rep K (M (C.add D) A s') H' p.2 e.2) ps es → Q ps H') → tPairs ts σ H Q
  | _, _, .nil, C, A, σ, H, s, acc, P, Q, R0, _, eD, p, q => q H [] [] s (by rw [List.append_nil]; exact p) R0 .refl .refl eD .nil
  | _, _, .cons hk hv hr, C, A, σ, H, s, acc, P, Q, R0, nD, eD, p, q => by
    refine hk.run (C.add D) A σ H s _ _ R0 p fun H1 v x s1 p1 o => ?_
    obtain ⟨R1, rp1⟩ := o.er.fz
    have e1 := o.fr.go (C := C) D _ eD (R0.off nD)
    refine hv.run (C.add D) A σ H1 s1 _ _ R1 p1 fun H2 w y s2 p2 o2 => ?_
    obtain ⟨R2, rp2⟩ := o2.er.fz
    have e2 := o2.fr.go (C := C) D _ e1 (R1.off nD)
    refine pairs_run hr R2 nD e2 p2 fun H3 ps es s3 p3 R3 fr3 dm3 e3 pp => ?_
    exact q H3 _ ((x.1, y.1) :: es) s3 (by rw [List.append_assoc] at p3; exact p3) R3 ((o.fr.trans o.dm o2.fr).trans (o.dm.trans o2.dm) fr3) ((o.dm.trans o2.dm).trans dm3) e3 (.cons ⟨rep_keep fr3 dm3 (rep_keep o2.fr o2.dm rp1), rep_keep fr3 dm3 rp2⟩ pp)
theorem pairs_key : ∀ {ps : List (V × V)} {es : List (PyData × PyData)}, Paired (fun (p : V × V) (e : PyData × PyData) => Rep K N H p.1 e.1 ∧ Rep K N H p.2 e.2) ps es → ∀ ks : List Key, es.map Prod.fst = ks.map keyD →
    ∃ kvs : List (Key × V), ps = kvs.map (fun kv => (kV kv.1, kv.2)) ∧ kvs.map Prod.fst = ks ∧ RepK K N H kvs es
  | _, _, .nil, ks, ek => by
    cases ks with
    | nil => exact ⟨[], rfl, rfl, .nil⟩
    | cons _ _ => cases ek
  | _, _, .cons (a := pv) (b := e) h t, ks, ek => by
    cases ks with
    | nil => cases ek
    | cons k ks =>
      rw [List.map_cons, List.map_cons] at ek
      injection ek with ek1 ek2
      obtain ⟨kvs, h1, h2, h3⟩ := pairs_key t ks ek2
      obtain ⟨p1, p2⟩ := pv
      obtain ⟨e1', e2'⟩ := e
      simp only at ek1 h
      subst ek1
      have hv := rep_keyD h.1.loose
      subst hv
      exact ⟨(k, p2) :: kvs, by rw [h1]; rfl, by rw [← h2]; rfl, .cons h.2 h3⟩
theorem le_disp {ts : List (TE × TE)} {fs : List (FE × FE)} (h : LPs K ts fs) : LE K (tDisp ts) (vDisp fs) := ⟨fun C A σ H s P Q R0 p q => by
  intro D hD
  have nD : ¬ C.N D := fun z => R0.nn D z hD
  refine pairs_run h (C := C) (R0.add (same_upd (o := .dK []) hD) hD (by rw [upd_same]; exact fun z => nomatch z)) nD upd_same p fun H1 ps es s1 ⟨ks, ek, nd, hl, px⟩ R1 fr dm e1 pp => ?_
  rw [List.nil_append] at ek hl px
  have key := pairs_key pp ks ek
  obtain ⟨kvs, rfl, hk, rk⟩ := key
  have lk : kvs.length = es.length := by
    have := congrArg List.length hk
    have h2 := congrArg List.length ek
    simp at this h2
    omega
  refine ⟨e1, kvs, rfl, by omega, ?_⟩
  rw [merge_new kvs [] (by rw [List.nil_append, hk]; exact nd), List.nil_append]
  refine q _ _ (.dict es, true) s1 px ?_
  have F : Fr A s H (upd H1 D (.dK kvs)) := ⟨fun b u e n1 n2 => (upd_ne (ne_of_none e hD)).trans (fr.1 b u (same_upd hD b u e) n1 n2), fun b u e m => (upd_ne (ne_of_none e hD)).trans (fr.2 b u (same_upd hD b u e) m)⟩
  have ht : ∀ b u, H1 b = some u → ¬ Mut (some u) → upd H1 D (.dK kvs) b = some u := fun b u q m => by
    by_cases z : b = D
    · subst z; rw [e1] at q; cases q; exact absurd trivial m
    · rw [upd_ne z]; exact q
  have hl' : ∀ b u, H1 b = some u → ¬ M (C.add D) A s1 b → upd H1 D (.dK kvs) b = some u ∧ ¬ M (C.add D) A s1 b := fun b u q m => ⟨by
    rw [upd_ne fun z => m (by rw [M_add]; exact .inr z)]; exact q, m⟩
  refine ⟨F, dm, ⟨D, rfl, R0.new0 hD, nD, R1.putD (.inr rfl) (R0.new0 hD) e1, rfl, D, rfl, .inl ⟨kvs, upd_same, RepK.go (fun _ _ e => sqt_of ht e) hl' _ _ rk⟩⟩, fun b _ e => by cases e; exact .inl hD⟩⟩
end
end EV
namespace EV
open PySem PySem.Spec PyProof.Rows L2 D0
theorem hu65 {A : Around} {k : Nat} (hr : Room k A) : A.units + 65 < cLine := by
  have := hr.un
  omega
section
variable {K : PySem.W.Frag} {C : VC} {A : Dy} {σ : L2.St} {H : Hp} {s : VS}
theorem ls_asgG {te : TE} {f : FE} {tg : TG} {g : FG} (h : LE K te f) (hg : LG K tg g) : LS K (tAsg te tg) (vAsgG f g) := ⟨fun C A σ H s E D r p hn hr hb hc => h.run C A σ H s _ _ r p fun H' v x s' px o => by
  obtain ⟨r', rp⟩ := o.er.fz
  exact hg.run C A σ H' s' v _ _ _ r' rp px fun σ2 s2 p2 r2 dm2 => hn A σ2 H' s2 p2 r2 (.of_fr o.fr (o.dm.trans dm2))⟩
def spLawV (K : PySem.W.Frag) : Sp := fun vs H Q _ => ∃ (a : Addr) (ns : List Int), vs = [.ref a] ∧ SqL K H a (ns.map V.int) ∧ ns.length ≤ 63 ∧ ∀ H', Q (.bl true) H'
theorem run_law {rest : TS} {g : FS} {nm : List Str} {Eb : XK} (L : LS K rest g) (n2 : 2 ≤ nm.length)
    (hg : g (.no :: .bg :: List.replicate (nm.length - 2) .no) { nx := fun _ => False, rt := fun r _ => r = (.bool true, false) }) {vs : List V} {Q : VK} {E : XK} (h : spLawV K vs H Q E) :
    tSeq (tAsg (tCall (spBag K) [] Eb (tCons (tVar 0) tNil)) (gName 1)) rest { nx := fun _ H' => Q .non H', rt := Q } (L2.start nm vs) H := by
  obtain ⟨a, ns, rfl, ha, hl, q⟩ := h
  have e0 : (L2.start nm [V.ref a])[0]? = some (some (.ref a)) := rfl
  refine ⟨_, e0, a, ns, rfl, ha, hl, fun H' b c cs sm hb B => ?_⟩
  have len : (L2.start nm [V.ref a]).length = nm.length := by
    unfold L2.start
    simp; omega
  have e1 : ((L2.start nm [V.ref a]).set 1 (some (.ref b)))[1]? = some (some (.ref b)) := by
    rw [List.getElem?_set, if_pos rfl, if_pos (by rw [len]; omega)]
  have no : ∀ (i : Nat) (x : Sl), (Sl.no :: Sl.bg :: List.replicate (nm.length - 2) Sl.no)[i]? = some x → x = .no ∨ (x = .bg ∧ i = 1) := fun i x e => by
    match i, e with
    | 0, e => cases e; exact .inl rfl
    | 1, e => cases e; exact .inr ⟨rfl, rfl⟩
    | i + 2, e =>
      rw [List.getElem?_cons_succ, List.getElem?_cons_succ, List.getElem?_replicate] at e
      split at e <;> cases e
      exact .inl rfl
  refine L.run ⟨fun _ => False, H'⟩ ⟨fun _ => 0, some (b, c)⟩ _ H' _ _ _ ⟨fun _ z => z.elim, fun _ _ e _ => e, fun b' c' z => by cases z; exact ⟨⟨cs, B⟩, id, id⟩, fun i d e => ?_, fun i d e => ?_, fun i j d1 d2 e1 e2 => ?_, fun i e => ?_, ?_⟩ hg
    (fun _ _ _ _ z => z.elim) (fun A' σ' H2 s' v r z er _ => ?_) (fun _ _ _ _ z => z.elim) (fun _ _ _ _ z => z.elim)
  · rcases no i _ e with z | ⟨z, _⟩ <;> cases z
  · rcases no i _ e with z | ⟨z, _⟩ <;> cases z
  · rcases no i _ e1 with z | ⟨z, _⟩ <;> cases z
  · rcases no i _ e with z | ⟨_, z⟩
    · cases z
    · subst z; exact ⟨b, c, rfl, e1⟩
  · rw [List.length_set, len]; simp; omega
  · subst z
    obtain ⟨_, rp⟩ := er
    cases rp
    exact q H2
end
section
variable {s s1 : VS} {E : VEnds} {P : PyData × Bool → VS → Prop} {PB : Bv → VS → Prop} {PA : List Bv → VS → Prop} {PT : Bool → VS → Prop} {PO : Option Int → VS → Prop} {PI : List PyData → VS → Prop} {f g h : FE} {fa : FA} {fb fb2 fb3 : FB} {t u : FT} {S1 S2 : FS} {i : Nat} {d : PyData} {k : KO}
theorem w_seq (q : S1 s { E with nx := fun s1 => S2 s1 E }) : vSeq S1 S2 s E := q
theorem w_cut (Mid : VS → Prop) (q : S1 s { E with nx := Mid }) (q2 : ∀ s', Mid s' → S2 s' E) : vCut S1 S2 s E := ⟨Mid, q, q2⟩
theorem w_pass (q : E.nx s) : vPass s E := q
theorem w_brk (q : E.bk s) : vBrk s E := q
theorem w_cnt (q : E.ct s) : vCnt s E := q
theorem w_if (q : t s fun b s1 => if b = true then S1 s1 E else S2 s1 E) : vIf t S1 S2 s E := q
theorem w_ret (q : f s E.rt) : vRet f s E := q
theorem w_retN (q : E.rt (.none, false) s) : vRetN s E := q
theorem w_drop (q : f s fun _ s1 => E.nx s1) : vDrop f s E := q
theorem w_asg (q : f s fun r s1 => E.nx (s1.set i (if r.2 = true then .ow r.1 else .fz r.1))) : vAsg f i s E := q
theorem w_asgG {g : FG} (q : f s fun r s1 => g r.1 s1 E.nx) : vAsgG f g s E := q
theorem w_of (q : f s fun r s' => PB (.val r.1) s') : vOf f s PB := q
theorem w_ref (h : (rsv s (.slot i)).isSome = true) (q : PB (.slot i) s) : vRef i s PB := ⟨h, q⟩
theorem w_varF (h : s[i]? = some (.fz d)) (q : P (d, false) s) : vVar i s P := by unfold vVar; rw [h]; exact q
theorem w_varO (h : s[i]? = some (.ow d)) (q : P (d, false) (s.set i (.fz d))) : vVar i s P := by unfold vVar; rw [h]; exact q
theorem w_movF (h : s[i]? = some (.fz d)) (q : P (d, false) s) : vMove i s P := by unfold vMove; rw [h]; exact q
theorem w_movO (h : s[i]? = some (.ow d)) (q : P (d, true) (s.set i .no)) : vMove i s P := by unfold vMove; rw [h]; exact q
theorem w_c (q : P (d, false) s) : vC d s P := q
theorem w_un {F : PyData → KO → Prop} (q : fb s fun x s1 => ∃ d, rsv s1 x = some d ∧ F d fun r => P r s1) : vUn F fb s P := q
theorem w_op {F : PyData → PyData → KO → Prop} (q : fb s fun x s1 => fb2 s1 fun y s2 => ∃ d e, rsv s2 x = some d ∧ rsv s2 y = some e ∧ F d e fun r => P r s2) : vOp F fb fb2 s P := q
theorem w_call {F : List PyData → KO → Prop} (q : fa s fun xs s1 => ∃ ds, rsvA s1 xs = some ds ∧ F ds fun r => P r s1) : vCall F fa s P := q
theorem w_nil (q : PA [] s) : vNil s PA := q
theorem w_cons (q : fb s fun x s1 => fa s1 fun xs s2 => PA (x :: xs) s2) : vCons fb fa s PA := q
theorem w_star (q : f s fun r s1 => ∃ ds, seqOf r.1 = some ds ∧ fa s1 fun xs s2 => PA (ds.map .val ++ xs) s2) : vStar f fa s PA := q
theorem w_def {sp : VSp} (q : fa s fun xs s1 => ∃ ds, valsA xs = some ds ∧ sp ds fun r => P r s1) : vDef sp fa s P := q
theorem w_defF {sp : VSp} (q : fa s fun xs s1 => ∃ ds, rsvA s1 xs = some ds ∧ sp ds fun r => r.2 = false ∧ flatD r.1 = true ∧ P r s1) : vDefF sp fa s P := q
theorem w_bag {sp : VSp} (h : s[i]? = some .bg) (q : fa s fun xs s1 => ∃ ds, valsA xs = some ds ∧ sp ds fun r => P r s1) : vBag sp i fa s P := ⟨h, q⟩
theorem w_mut {F : List PyData → List PyData → (List PyData → PyData → Prop) → Prop} {ds : List PyData} (h : s[i]? = some (.ow (.list ds)))
    (q : fa s fun xs s1 => ∃ ds es, s1[i]? = some (.ow (.list ds)) ∧ valsA xs = some es ∧ F ds es fun ds' x => P (x, false) (s1.set i (.ow (.list ds')))) : vMut F i fa s P := ⟨⟨ds, h⟩, q⟩
theorem w_test (q : f s fun r s' => ∃ k, r = (.bool k, false) ∧ PT k s') : vTest f s PT := q
theorem w_and (q : t s fun b s1 => if b = true then u s1 PT else PT false s1) : vAnd t u s PT := q
theorem w_or (q : t s fun b s1 => if b = true then PT true s1 else u s1 PT) : vOr t u s PT := q
theorem w_not (q : t s fun b s1 => PT (!b) s1) : vNot t s PT := q
theorem w_yes (q : PT true s) : vYes s PT := q
theorem w_andV (q : f s fun x s1 => ∃ c, x = (.bool c, false) ∧ if c = true then g s1 P else P (.bool false, false) s1) : vAndV f g s P := q
theorem w_orV (q : f s fun x s1 => ∃ c, x = (.bool c, false) ∧ if c = true then P (.bool true, false) s1 else g s1 P) : vOrV f g s P := q
theorem w_notV (q : f s fun x s1 => ∃ c, x = (.bool c, false) ∧ P (.bool (!c), false) s1) : vNotV f s P := q
theorem w_ifE (q : t s fun b s1 => if b = true then f s1 P else g s1 P) : vIfE t f g s P := q
theorem w_chain {F F' : PyData → PyData → KO → Prop} (q : fb s fun x s1 => fb2 s1 fun y s2 => ∃ d e, rsv s2 x = some d ∧ rsv s2 y = some e ∧ F d e fun r => ∃ k, r = (.bool k, false) ∧
  if k = true then fb3 s2 fun z s3 => ∃ e g, rsv s3 y = some e ∧ rsv s3 z = some g ∧ F' e g fun r => P r s3 else P (.bool false, false) s2) : vChain F F' fb fb2 fb3 s P := q
theorem w_b {b : Bool} {R : Bool → Prop} (q : R b) : ∃ k, (PyData.bool b, false) = (PyData.bool k, false) ∧ R k := ⟨b, rfl, q⟩
theorem w_r1 {x : Bv} {R : PyData → Prop} (h : rsv s x = some d) (q : R d) : ∃ d, rsv s x = some d ∧ R d := ⟨d, h, q⟩
theorem w_r2 {x y : Bv} {e : PyData} {R : PyData → PyData → Prop} (h : rsv s x = some d) (h2 : rsv s y = some e) (q : R d e) : ∃ d e, rsv s x = some d ∧ rsv s y = some e ∧ R d e := ⟨d, e, h, h2, q⟩
theorem w_ra {xs : List Bv} {ds : List PyData} {R : List PyData → Prop} (h : rsvA s xs = some ds) (q : R ds) : ∃ ds, rsvA s xs = some ds ∧ R ds := ⟨ds, h, q⟩
theorem w_va {xs : List Bv} {ds : List PyData} {R : List PyData → Prop} (h : valsA xs = some ds) (q : R ds) : ∃ ds, valsA xs = some ds ∧ R ds := ⟨ds, h, q⟩
theorem w_mu {xs : List Bv} {ds es : List PyData} {R : List PyData → List PyData → Prop} (h : s[i]? = some (.ow (.list ds))) (h2 : valsA xs = some es) (q : R ds es) : ∃ ds es, s[i]? = some (.ow (.list ds)) ∧ valsA xs = some es ∧ R ds es := ⟨ds, es, h, h2, q⟩
theorem w_isi {n : String} (q : fb s fun x s1 => ∃ d b, rsv s1 x = some d ∧ kitB (tyN d) n = some b ∧ P (.bool b, false) s1) : vIsi n fb s P := q
theorem w_ri {x : Bv} {n : String} {b : Bool} {R : Bool → Prop} (h : rsv s x = some d) (h2 : kitB (tyN d) n = some b) (q : R b) : ∃ d b, rsv s x = some d ∧ kitB (tyN d) n = some b ∧ R b := ⟨d, b, h, h2, q⟩
theorem w_noPart (q : PO none s) : vNoPart s PO := q
theorem w_part (q : f s fun r s1 => ∃ i, r = (.int i, false) ∧ PO (some i) s1) : vPart f s PO := q
theorem w_i {j : Int} {R : Int → Prop} (q : R j) : ∃ i, (PyData.int j, false) = (PyData.int i, false) ∧ R i := ⟨j, rfl, q⟩
theorem w_sl {F : PyData → Option Int → Option Int → KO → Prop} {fl fh : FO} (q : fb s fun x s1 => fl s1 fun lo s2 => fh s2 fun hi s3 => ∃ d, rsv s3 x = some d ∧ F d lo hi fun r => P r s3) : vSl F fb fl fh s P := q
theorem w_rev (q : fb s fun x s1 => ∃ d, rsv s1 x = some d ∧ fRev d fun r => P r s1) : vRev fb s P := q
theorem w_tup (q : fa s fun xs s1 => ∃ ds, valsA xs = some ds ∧ ds.length ≤ sizeLine ∧ P (.tuple ds, false) s1) : vTup fa s P := q
theorem w_lst (q : fa s fun xs s1 => ∃ ds, valsA xs = some ds ∧ ds.length ≤ sizeLine ∧ P (.list ds, true) s1) : vLst fa s P := q
theorem w_disp {xs : List Bv} {ds : List PyData} {R : List PyData → Prop} (h : valsA xs = some ds) (l : ds.length ≤ sizeLine) (q : R ds) : ∃ ds, valsA xs = some ds ∧ ds.length ≤ sizeLine ∧ R ds := ⟨ds, h, l, q⟩
theorem w_join (q : f s fun x s1 => ∃ sep, x = (.str sep, false) ∧ fb s1 fun y s2 => ∃ e, rsv s2 y = some e ∧ ∃ ys : List Str, seqOf e = some (ys.map .str) ∧ (ys.map (·.length)).sum + ys.length * sep.length ≤ 16777216 ∧ P (.str (Txt.join sep ys), false) s2) : vJoin f fb s P := q
theorem w_s {x : Str} {R : Str → Prop} (q : R x) : ∃ i, (PyData.str x, false) = (PyData.str i, false) ∧ R i := ⟨x, rfl, q⟩
theorem w_dget {fd fk : FB} (q : fd s fun x s1 => fk s1 fun y s2 => ∃ es k r, rsv s2 x = some (.dict es) ∧ rsv s2 y = some k ∧ kindOk es k = true ∧ lookD es k = some r ∧ P (r, false) s2) : vDGet fd fk s P := q
theorem w_rd {x y : Bv} {es : List (PyData × PyData)} {k r : PyData} {R : PyData → Prop} (h : rsv s x = some (.dict es)) (h2 : rsv s y = some k) (h3 : kindOk es k = true) (h4 : lookD es k = some r) (q : R r) :
    ∃ es k r, rsv s x = some (.dict es) ∧ rsv s y = some k ∧ kindOk es k = true ∧ lookD es k = some r ∧ R r := ⟨es, k, r, h, h2, h3, h4, q⟩
theorem w_din {neg : Bool} {fd fk : FB} (q : fk s fun y s1 => fd s1 fun x s2 => ∃ es k, rsv s2 x = some (.dict es) ∧ rsv s2 y = some k ∧ kindOk es k = true ∧ P (.bool (if neg then !(lookD es k).isSome else (lookD es k).isSome), false) s2) : vDIn neg fk fd s P := q
theorem w_rdi {x y : Bv} {es : List (PyData × PyData)} {k : PyData} {R : List (PyData × PyData) → PyData → Prop} (h : rsv s x = some (.dict es)) (h2 : rsv s y = some k) (h3 : kindOk es k = true) (q : R es k) :
    ∃ es k, rsv s x = some (.dict es) ∧ rsv s y = some k ∧ kindOk es k = true ∧ R es k := ⟨es, k, h, h2, h3, q⟩
-- operations
theorem o_addI {i j : Int} (q : k (.int (i + j), false)) : fAdd (.int i) (.int j) k := q
theorem o_addS {i j : Str} (h : i.length + j.length ≤ sizeLine) (q : k (.str (i ++ j), false)) : fAdd (.str i) (.str j) k := ⟨h, q⟩
theorem o_addL {i j : List PyData} (h : i.length + j.length ≤ sizeLine) (q : k (.list (i ++ j), true)) : fAdd (.list i) (.list j) k := ⟨h, q⟩
theorem o_sub {i j : Int} (q : k (.int (i - j), false)) : fSub (.int i) (.int j) k := ⟨trivial, q⟩
theorem o_mulI {i j : Int} (h : CMul i j) (q : k (.int (i * j), false)) : fMul (.int i) (.int j) k := ⟨h, q⟩
theorem o_mulS {x : Str} {j : Int} (h : -(2 ^ 62) ≤ j ∧ j ≤ 1000 ∧ x.length ≤ 1000) (q : k (.str (repS x j), false)) : fMul (.str x) (.int j) k := ⟨h.1, h.2.1, h.2.2, q⟩
theorem o_mod {i j : Int} (h : j ≠ 0) (q : k (.int (i.fmod j), false)) : fMod (.int i) (.int j) k := ⟨h, q⟩
theorem o_div {i j : Int} (h : CDivW i j) (q : k (.int (i / j), false)) : fDiv (.int i) (.int j) k := ⟨h, q⟩
theorem o_lt {i j : Int} (q : k (.bool (decide (i < j)), false)) : fLt (.int i) (.int j) k := ⟨trivial, q⟩
theorem o_le {i j : Int} (q : k (.bool (decide (i ≤ j)), false)) : fLe (.int i) (.int j) k := ⟨trivial, q⟩
theorem o_gt {i j : Int} (q : k (.bool (decide (j < i)), false)) : fGt (.int i) (.int j) k := ⟨trivial, q⟩
theorem o_ge {i j : Int} (q : k (.bool (decide (j ≤ i)), false)) : fGe (.int i) (.int j) k := ⟨trivial, q⟩
theorem o_eq {e : PyData} (h : eqOk d e = true) (q : k (.bool (PyData.eqv d e), false)) : fEq d e k := ⟨h, q⟩
theorem o_ne {e : PyData} (h : eqOk d e = true) (q : k (.bool (!PyData.eqv d e), false)) : fNe d e k := ⟨h, q⟩
theorem o_eqI {i j : Int} (q : k (.bool (decide (i = j)), false)) : fEq (.int i) (.int j) k := ⟨rfl, by rw [show PyData.eqv (.int i) (.int j) = decide (i = j) from by (show (i == j) = _); by_cases h : i = j <;> simp [h]]; exact q⟩
theorem o_eqS {i j : Str} (q : k (.bool (decide (i = j)), false)) : fEq (.str i) (.str j) k := ⟨rfl, by rw [show PyData.eqv (.str i) (.str j) = decide (i = j) from by (show (i == j) = _); by_cases h : i = j <;> simp [h]]; exact q⟩
theorem o_neI {i j : Int} (q : k (.bool (!decide (i = j)), false)) : fNe (.int i) (.int j) k := ⟨rfl, by rw [show PyData.eqv (.int i) (.int j) = decide (i = j) from by (show (i == j) = _); by_cases h : i = j <;> simp [h]]; exact q⟩
theorem o_neS {i j : Str} (q : k (.bool (!decide (i = j)), false)) : fNe (.str i) (.str j) k := ⟨rfl, by rw [show PyData.eqv (.str i) (.str j) = decide (i = j) from by (show (i == j) = _); by_cases h : i = j <;> simp [h]]; exact q⟩
theorem o_isN (q : k (.bool (isNoneD d), false)) : fIs d .none k := .inl ⟨rfl, q⟩
theorem o_isB {b : Bool} (h : flatS d = true) (q : k (.bool (isBD b d), false)) : fIs d (.bool b) k := .inr ⟨b, rfl, h, q⟩
theorem o_notN (q : k (.bool (!isNoneD d), false)) : fIsNot d .none k := .inl ⟨rfl, q⟩
theorem o_ixL {ds : List PyData} {j : Int} {e : PyData} (h : atI ds j = some e) (q : k (e, false)) : fIx (.list ds) (.int j) k := ⟨e, h, q⟩
theorem o_ixT {ds : List PyData} {j : Int} {e : PyData} (h : atI ds j = some e) (q : k (e, false)) : fIx (.tuple ds) (.int j) k := ⟨e, h, q⟩
theorem o_ixS {z : Str} {j : Int} {c : Nat} (h : z.length ≤ sizeLine) (e : atI z.cps.toList j = some c) (q : k (.str ⟨#[c]⟩, false)) : fIx (.str z) (.int j) k := ⟨h, c, e, q⟩
theorem o_slL {ds : List PyData} {lo hi : Option Int} (q : k (.list (cutD ds lo hi), true)) : fSl (.list ds) lo hi k := q
theorem o_slT {ds : List PyData} {lo hi : Option Int} (q : k (.tuple (cutD ds lo hi), false)) : fSl (.tuple ds) lo hi k := q
theorem o_slS {z : Str} {lo hi : Option Int} (h : z.length ≤ sizeLine) (q : k (.str (cutS z lo hi), false)) : fSl (.str z) lo hi k := ⟨h, q⟩
theorem o_revL {ds : List PyData} (q : k (.list ds.reverse, true)) : fRev (.list ds) k := q
theorem o_neg {i : Int} (q : k (.int (-i), false)) : fNeg (.int i) k := q
theorem o_lenL {ds : List PyData} (q : k (.int ds.length, false)) : fLen [.list ds] k := q
theorem o_lenT {ds : List PyData} (q : k (.int ds.length, false)) : fLen [.tuple ds] k := q
theorem o_lenS {z : Str} (h : z.length ≤ sizeLine) (q : k (.int z.length, false)) : fLen [.str z] k := ⟨h, q⟩
theorem o_int {i : Int} (q : k (.int i, false)) : fInt [.int i] k := .inl ⟨i, rfl, q⟩
theorem o_intB {b : Bool} (q : k (.int (if b then 1 else 0), false)) : fInt [.bool b] k := .inr ⟨b, rfl, q⟩
theorem o_strI {i : Int} (h : i.natAbs.log2 < 1920) (q : k (.str (toString i), false)) : fStr [.int i] k := .inl ⟨i, rfl, h, q⟩
theorem o_strS {x : Str} (q : k (.str x, false)) : fStr [.str x] k := .inr (.inl ⟨x, rfl, q⟩)
theorem o_strB {b : Bool} (q : k (.str (if b then "True" else "False"), false)) : fStr [.bool b] k := .inr (.inr ⟨b, rfl, q⟩)
theorem o_abs {i : Int} (q : k (.int (if i < 0 then -i else i), false)) : fAbs' [.int i] k := ⟨i, rfl, q⟩
theorem o_max2 {i j : Int} (q : k (.int (if j > i then j else i), false)) : fMax2 [.int i, .int j] k := ⟨i, j, rfl, q⟩
theorem o_min2 {i j : Int} (q : k (.int (if j < i then j else i), false)) : fMin2 [.int i, .int j] k := ⟨i, j, rfl, q⟩
theorem o_list {ds : List PyData} (q : k (.list ds, true)) : fList [.list ds] k := ⟨_, ds, rfl, rfl, q⟩
theorem o_listT {ds : List PyData} (q : k (.list ds, true)) : fList [.tuple ds] k := ⟨_, ds, rfl, rfl, q⟩
theorem o_tup {ds : List PyData} (q : k (.tuple ds, false)) : fTuple [.list ds] k := ⟨_, ds, rfl, rfl, q⟩
theorem o_tupT {ds : List PyData} (q : k (.tuple ds, false)) : fTuple [.tuple ds] k := ⟨_, ds, rfl, rfl, q⟩
theorem o_sum {ns : List Int} (q : k (.int ns.sum, false)) : fSum [.list (ns.map .int)] k := ⟨ns, rfl, q⟩
theorem m_app {ds : List PyData} {R : List PyData → PyData → Prop} (h : ds.length < sizeLine) (q : R (ds ++ [d]) .none) : mAppend ds [d] R := ⟨h, q⟩
theorem m_ext {ds es : List PyData} {R : List PyData → PyData → Prop} (h : ds.length + es.length ≤ sizeLine) (q : R (ds ++ es) .none) : mExtend ds [.list es] R := ⟨h, q⟩
theorem o_draw {m : Int} (h : 0 < m) (h2 : m < 2 ^ 1000) (q : ∀ r, 0 ≤ r → r < m → k (.int r, false)) : spDrawV [.int m] k := ⟨m, rfl, h, h2, q⟩
-- loops
theorem w_for {fi : FI} {tg : FG} {body : FS} (q : fi s fun ds s1 => forV tg body E ds s1) : vFor fi tg body s E := q
theorem w_rng1 (q : fa s fun xs s1 => ∃ j, rsvA s1 xs = some [.int j] ∧ -(2 ^ 62) ≤ j ∧ j < 2 ^ 62 ∧ PI (rgD 0 j.toNat) s1) : vRng1 fa s PI := q
theorem w_rng2 (q : fa s fun xs s1 => ∃ i j, rsvA s1 xs = some [.int i, .int j] ∧ (-(2 ^ 62) ≤ i ∧ i < 2 ^ 62 ∧ -(2 ^ 62) ≤ j ∧ j < 2 ^ 62) ∧ PI (rgD i (j - i).toNat) s1) : vRng2 fa s PI := q
theorem w_rj {xs : List Bv} {j : Int} {R : Int → Prop} (h : rsvA s xs = some [.int j]) (h1 : -(2 ^ 62) ≤ j) (h2 : j < 2 ^ 62) (q : R j) : ∃ j, rsvA s xs = some [.int j] ∧ -(2 ^ 62) ≤ j ∧ j < 2 ^ 62 ∧ R j := ⟨j, h, h1, h2, q⟩
theorem w_itL (q : f s fun r s1 => ∃ ds, r.1 = .list ds ∧ PI ds s1) : vItL f s PI := q
theorem w_itT (q : f s fun r s1 => ∃ ds, r.1 = .tuple ds ∧ PI ds s1) : vItT f s PI := q
theorem w_itS (q : f s fun r s1 => ∃ z, r.1 = .str z ∧ PI (sgD z) s1) : vItS f s PI := q
theorem w_lc {fi : FI} {tg : FG} {ft : FT} {fe : FE} {vs : List Nat} (q : fi s fun ds s1 => lcV tg ft fe vs (fun ys s' => P (.list ys, true) (backV s1 s' vs)) ds [] s1) : vLc fi tg ft fe vs s P := q
/-- a for by its invariant -/
theorem for_inv {tg : FG} {body : FS} (I : Nat → VS → Prop) {ds : List PyData} {s : VS} (h0 : I 0 s)
    (hs : ∀ (i : Nat) (d : PyData) (s : VS) (F : VS → Prop), i < ds.length → ds[i]? = some d → I i s → (∀ s', I (i + 1) s' → F s') → tg d s fun s1 => body s1 { nx := F, rt := E.rt, bk := E.nx, ct := F })
    (hd : ∀ s, I ds.length s → E.nx s) : forV tg body E ds s := by
  induction ds generalizing s I with
  | nil => exact hd s h0
  | cons d ds ih =>
    exact hs 0 d s _ (by simp) rfl h0 fun s' h' => ih (fun i s => I (i + 1) s) h' (fun i d s F hi e h hF => hs (i + 1) d s F (by simpa using hi) (by simpa using e) h hF) (fun s h => hd s (by simpa using h))
/-- a comprehension by its invariant: what has been made, the slots -/
theorem lc_inv {tg : FG} {ft : FT} {fe : FE} {vs : List Nat} {Pd : List PyData → VS → Prop} (I : Nat → List PyData → VS → Prop) {ds acc : List PyData} {s : VS} (h0 : I 0 acc s)
    (hs : ∀ (i : Nat) (d : PyData) (acc : List PyData) (s : VS) (F : List PyData → VS → Prop), i < ds.length → ds[i]? = some d → I i acc s → (∀ acc' s', I (i + 1) acc' s' → F acc' s') →
      tg d (wipeV s vs) fun s1 => ft s1 fun b s2 => if b = true then fe s2 fun r s3 => acc.length < sizeLine ∧ F (acc ++ [r.1]) s3 else F acc s2)
    (hd : ∀ acc s, I ds.length acc s → Pd acc s) : lcV tg ft fe vs Pd ds acc s := by
  induction ds generalizing s I acc with
  | nil => exact hd acc s h0
  | cons d ds ih =>
    exact hs 0 d acc s (fun acc' s' => lcV tg ft fe vs Pd ds acc' s') (by simp) rfl h0 fun acc' s' h' => ih (fun i acc s => I (i + 1) acc s) h' (fun i d acc s F hi e h hF => hs (i + 1) d acc s F (by simpa using hi) (by simpa using e) h hF) (fun acc s h => hd acc s (by simpa using h))
/-- a while by its invariant, a measure -/
theorem while_inv {ft : FT} {body : FS} (I : Nat → VS → Prop) {m : Nat} {s : VS} (h0 : I m s)
    (hs : ∀ (m : Nat) (s : VS) (F : VS → Prop), I m s → (∀ m' s', m' < m → I m' s' → F s') → ft s fun b s1 => if b = true then body s1 { nx := F, rt := E.rt, bk := E.nx, ct := F } else E.nx s1) : vWhile ft body s E := by
  refine ⟨m + 1, ?_⟩
  have key : ∀ (n m : Nat) (s : VS), m < n → I m s → whV ft body E n s := by
    intro n
    induction n with
    | zero => intro m s h; omega
    | succ n ih =>
      intro m s h hI
      exact hs m s _ hI fun m' s' h1 h2 => ih m' s' (by omega) h2
  exact key _ _ _ (Nat.lt_succ_self m) h0
end
end EV
namespace EV
open PySem PySem.Spec PyProof.Rows L2 D0
theorem at_mem {α : Type} {xs : List α} {r : Int} (h0 : 0 ≤ r) (h1 : r < (xs.length : Int)) : ∃ d, atI xs r = some d ∧ d ∈ xs := by
  obtain ⟨j, rfl⟩ := Int.eq_ofNat_of_zero_le h0
  have hl : j < xs.length := by omega
  exact ⟨xs[j], atI_nat (List.getElem?_eq_getElem hl), List.getElem_mem hl⟩
theorem erase_perm {α : Type} : ∀ {xs : List α} {j : Nat} (hl : j < xs.length), xs.Perm (xs[j] :: xs.eraseIdx j)
  | _ :: _, 0, _ => List.Perm.refl _
  | x :: xs, j + 1, hl => ((erase_perm (xs := xs) (j := j) (by simpa using hl)).cons x).trans (List.Perm.swap _ _ _)
theorem pop_at {α : Type} {xs : List α} {r : Int} (h0 : 0 ≤ r) (h1 : r < (xs.length : Int)) : ∃ j y, seqIndex? r xs.length = some j ∧ xs[j]? = some y ∧ xs.Perm (y :: xs.eraseIdx j) := by
  obtain ⟨j, rfl⟩ := Int.eq_ofNat_of_zero_le h0
  have hl : j < xs.length := by omega
  refine ⟨j, xs[j], ?_, List.getElem?_eq_getElem hl, ?_⟩
  · unfold seqIndex?
    simp
    omega
  · exact erase_perm hl
theorem iteTr {b : Bool} {A B : Prop} (h : b = true) (q : A) : if b = true then A else B := by rw [if_pos h]; exact q
theorem iteFr {b : Bool} {A B : Prop} (h : b = false) (q : B) : if b = true then A else B := by rw [h, if_neg Bool.false_ne_true]; exact q
theorem o_in {d e : PyData} {ds : List PyData} {k : KO} (h : seqOf e = some ds) (f : flatS d = true) (fa : ds.all flatS = true) (q : k (.bool (ds.any fun z => PyData.eqv z d), false)) : fIn d e k := .inl ⟨ds, h, f, fa, q⟩
theorem o_nin {d e : PyData} {ds : List PyData} {k : KO} (h : seqOf e = some ds) (f : flatS d = true) (fa : ds.all flatS = true) (q : k (.bool (!ds.any fun z => PyData.eqv z d), false)) : fNin d e k := .inl ⟨ds, h, f, fa, q⟩
section
variable {s : VS} {Q : VS → Prop} {g : FG} {gs : FGs} {i n : Nat} {d : PyData} {ds : List PyData}
theorem w_gN (q : Q (s.set i (.fz d))) : gN i d s Q := q
theorem w_gT (h : ds.length = n) (q : gs ds s Q) : gT n gs (.tuple ds) s Q := ⟨ds, rfl, h, q⟩
theorem w_gsNil (q : Q s) : gsNil [] s Q := ⟨rfl, q⟩
theorem w_gsCons (q : g d s fun s1 => gs ds s1 Q) : gsCons g gs (d :: ds) s Q := ⟨d, ds, rfl, q⟩
end
theorem take_succ_get {α : Type} {l : List α} {i : Nat} {x : α} (e : l[i]? = some x) : l.take (i + 1) = l.take i ++ [x] := by
  rw [List.take_succ, e]; rfl
theorem vals_app {bs : List Bv} {es : List PyData} (h : valsA bs = some es) : ∀ ds : List PyData, valsA (ds.map .val ++ bs) = some (ds ++ es)
  | [] => h
  | d :: ds => by
    show valsA (.val d :: (ds.map .val ++ bs)) = _
    unfold valsA
    rw [vals_app h ds]; rfl
theorem vals_cons {bs : List Bv} {es : List PyData} {d : PyData} (h : valsA bs = some es) : valsA (.val d :: bs) = some (d :: es) := by
  unfold valsA
  rw [h]
theorem lt_big {m : Int} (h : m ≤ 2 ^ 62) : m < 2 ^ 1000 := Int.lt_of_le_of_lt h (by decide)
theorem len1 (c : Nat) : (⟨#[c]⟩ : Str).length = 1 := rfl
theorem at_sgn {z : Str} {i : Int} (h0 : 0 ≤ i) (h1 : i < (z.length : Int)) : ∃ c, atI z.cps.toList i = some c := by
  obtain ⟨c, e, _⟩ := at_str h0 h1
  exact ⟨c, e⟩
theorem cut_none_le (z : Str) {i : Int} (h : 0 ≤ i) : ((cutS z none (some i)).length : Int) ≤ i := by
  obtain ⟨n, rfl⟩ := Int.eq_ofNat_of_zero_le h
  have : (cutS z none (some (n : Int))).length ≤ n := by
    show (((z.cps.toList.drop (HT.sIx z.length 0 none)).take (HT.sIx z.length z.length (some (n : Int)) - HT.sIx z.length 0 none)).toArray).size ≤ n
    rw [List.size_toArray, List.length_take, HT.sIx_none, HT.sIx_nat]
    omega
  omega
theorem repS_len (x : Str) (k : Int) : (repS x k).length = k.toNat * x.length := by
  unfold repS
  generalize k.toNat = n
  have : ∀ (m : Nat) (z : Array Nat), ((List.replicate m x.cps).foldl (· ++ ·) z).size = z.size + m * x.cps.size := by
    intro m
    induction m with
    | zero => intro z; simp
    | succ m ih => intro z; rw [List.replicate_succ, List.foldl_cons, ih, Array.size_append, Nat.succ_mul]; omega
  show ((List.replicate n x.cps).foldl (· ++ ·) #[]).size = _
  rw [this]; simp [Str.length]
def strD (xs : List Str) : List PyData := xs.map .str
theorem strD_len (xs : List Str) : (strD xs).length = xs.length := List.length_map _
theorem strD_app (xs : List Str) (x : Str) : strD xs ++ [.str x] = strD (xs ++ [x]) := by unfold strD; rw [List.map_append]; rfl
theorem strD_flat (xs : List Str) : (strD xs).all flatS = true := by
  rw [List.all_eq_true]
  intro x hx
  obtain ⟨y, _, rfl⟩ := List.mem_map.mp hx
  rfl
theorem perm_map {α β : Type} (f : α → β) {ys : List β} {l : List α} (h : ys.Perm (l.map f)) : ∃ l' : List α, ys = l'.map f ∧ l'.Perm l := by
  generalize hm : l.map f = m at h
  induction h generalizing l with
  | nil => exact ⟨[], rfl, by rw [List.map_eq_nil_iff.mp hm]⟩
  | @cons x l1 l2 h ih =>
    cases l with
    | nil => cases hm
    | cons a l =>
      rw [List.map_cons] at hm
      injection hm with e1 e2
      obtain ⟨l', e, p⟩ := ih e2
      exact ⟨a :: l', by rw [e, ← e1]; rfl, p.cons a⟩
  | swap x y l2 =>
    cases l with
    | nil => cases hm
    | cons a l =>
      rw [List.map_cons] at hm
      injection hm with e1 e2
      cases l with
      | nil => cases e2
      | cons b l =>
        rw [List.map_cons] at e2
        injection e2 with e3 e4
        exact ⟨b :: a :: l, by rw [List.map_cons, List.map_cons, e1, e3, e4], List.Perm.swap _ _ _⟩
  | trans _ _ ih1 ih2 =>
    obtain ⟨l1, e1, p1⟩ := ih2 hm
    obtain ⟨l2, e2, p2⟩ := ih1 e1.symm
    exact ⟨l2, e2, p2.trans p1⟩
theorem cutD_take {α : Type} (xs : List α) {m : Int} (h : 0 ≤ m) : cutD xs none (some m) = xs.take m.toNat := by
  obtain ⟨n, rfl⟩ := Int.eq_ofNat_of_zero_le h
  unfold cutD
  rw [HT.sIx_none, HT.sIx_nat, List.drop_zero, Nat.sub_zero]
  show xs.take (min n xs.length) = xs.take n
  by_cases h : n ≤ xs.length
  · rw [Nat.min_eq_left h]
  · rw [Nat.min_eq_right (by omega), List.take_length, List.take_of_length_le (by omega)]
theorem cutD_drop {α : Type} (xs : List α) {m : Int} (h : 0 ≤ m) : cutD xs (some m) none = xs.drop m.toNat := by
  obtain ⟨n, rfl⟩ := Int.eq_ofNat_of_zero_le h
  unfold cutD
  rw [HT.sIx_none, HT.sIx_nat]
  show (xs.drop (min n xs.length)).take (xs.length - min n xs.length) = xs.drop n
  by_cases h : n ≤ xs.length
  · rw [Nat.min_eq_left h, List.take_of_length_le (by rw [List.length_drop]; omega)]
  · rw [Nat.min_eq_right (by omega), List.drop_length, List.drop_eq_nil_of_le (by omega), List.take_nil]
section
variable {fs r : List (FE × FE)} {fk fv : FE} {s : VS} {P : PyData × Bool → VS → Prop} {PP : List (PyData × PyData) → VS → Prop} {acc es : List (PyData × PyData)}
theorem w_dict (q : vPairs fs [] s fun es s' => ∃ ks : List Key, es.map Prod.fst = ks.map keyD ∧ ks.Nodup ∧ es.length ≤ 15 ∧ P (.dict es, true) s') : vDisp fs s P := q
theorem w_pnil (q : PP acc s) : vPairs [] acc s PP := q
theorem w_pcons (q : fk s fun k s1 => fv s1 fun v s2 => vPairs r (acc ++ [(k.1, v.1)]) s2 PP) : vPairs ((fk, fv) :: r) acc s PP := q
theorem w_keys {ks : List Key} {A : Prop} (h : keysOf (es.map Prod.fst) = some ks) (nd : ks.Nodup) (l : es.length ≤ 15) (q : A) : ∃ ks : List Key, es.map Prod.fst = ks.map keyD ∧ ks.Nodup ∧ es.length ≤ 15 ∧ A := ⟨ks, keysOf_eq h, nd, l, q⟩
end
theorem log_small {i : Int} (h : i.natAbs < 2 ^ 64) : i.natAbs.log2 < 1920 := by
  by_cases z : i.natAbs = 0
  · rw [z]; decide
  · exact Nat.lt_trans ((Nat.log2_lt z).mpr h) (by decide)
end EV
namespace EV
open PySem PySem.Spec PyProof.Rows L2 D0
section
variable {K : PySem.W.Frag}
def fSetLen (d : PyData) (k : KO) : Prop := ∃ ns : List Int, d = .list (ns.map .int) ∧ ns.length ≤ 4000 ∧ ∀ m : List Int, m.Nodup → (∀ z, z ∈ m ↔ z ∈ ns) → k (.int m.length, false)
theorem le_setLen {ta : TE} {f : FB} (h : LB K ta f) : LE K (tLenSetG K ta) (vUn fSetLen f) := ⟨fun C A σ H s P Q R0 p q => by
  refine h.run C A σ H s _ _ R0 p fun H1 v bv s1 ⟨d, e, ns, ed, hl, px⟩ R1 fr dm br => ?_
  subst ed
  obtain ⟨a, ea, hs⟩ := loose_ints (br.loose R1 e)
  exact ⟨a, ns, ea, hs, hl, fun m nd mem => q H1 (.int m.length) _ s1 (px m nd mem) (.after fr dm (out_er R1 out_int))⟩⟩
end
section
variable {s : VS} {d : PyData} {k : KO}
theorem o_any {bs : List Bool} (q : k (.bool (bs.any id), false)) : fAny [.list (bs.map .bool)] k := ⟨bs, rfl, q⟩
theorem o_all {bs : List Bool} (q : k (.bool (bs.all id), false)) : fAll [.list (bs.map .bool)] k := ⟨bs, rfl, q⟩
theorem o_sortI {ns : List Int} (q : ∀ ns' : List Int, ns'.Perm ns → ns'.Pairwise (· ≤ ·) → k (.list (ns'.map .int), true)) : fSortI [.list (ns.map .int)] k := ⟨ns, rfl, q⟩
theorem o_min1 {ns : List Int} (h : 0 < ns.length) (q : ∀ m, m ∈ ns → (∀ y, y ∈ ns → m ≤ y) → k (.int m, false)) : fMin1 [.list (ns.map .int)] k := ⟨ns, rfl, h, q⟩
theorem o_setLen {ns : List Int} (h : ns.length ≤ 4000) (q : ∀ m : List Int, m.Nodup → (∀ z, z ∈ m ↔ z ∈ ns) → k (.int m.length, false)) : fSetLen (.list (ns.map .int)) k := ⟨ns, rfl, h, q⟩
section
variable {E : VEnds} {P : PyData × Bool → VS → Prop} {f g : FE} {i : Nat} {fi fe : FE}
theorem w_lrg (q : f s fun r s1 => ∃ n, r = (.int n, false) ∧ RgOk 0 n ∧ P (.list (rgD 0 n.toNat), true) s1) : vLRg1 f s P := q
theorem w_trg (q : f s fun r s1 => ∃ n, r = (.int n, false) ∧ RgOk 0 n ∧ P (.tuple (rgD 0 n.toNat), false) s1) : vTRg1 f s P := q
theorem w_rk {xs : List Bv} {a b : Int} {R : Int → Int → Prop} (h : rsvA s xs = some [.int a, .int b]) (h1 : -(2 ^ 62) ≤ a ∧ a < 2 ^ 62 ∧ -(2 ^ 62) ≤ b ∧ b < 2 ^ 62) (q : R a b) : ∃ i j, rsvA s xs = some [.int i, .int j] ∧ (-(2 ^ 62) ≤ i ∧ i < 2 ^ 62 ∧ -(2 ^ 62) ≤ j ∧ j < 2 ^ 62) ∧ R i j := ⟨a, b, h, h1, q⟩
theorem w_lri {n : Int} {R : Prop} (h : RgOk 0 n) (q : R) : RgOk 0 n ∧ R := ⟨h, q⟩
theorem w_aug {op : Int → Int → Int} {a : Int} (h : s[i]? = some (.fz (.int a))) (q : f s fun r s1 => ∃ b : Int, r = (.int b, false) ∧ E.nx (s1.set i (.fz (.int (op a b))))) : vAug op i f s E := ⟨⟨a, h⟩, by
  have : (fun (r : PyData × Bool) (s1 : VS) => ∃ b : Int, r = (.int b, false) ∧ E.nx (s1.set i (.fz (.int (op a b))))) = fun r s1 => ∃ a' b : Int, s[i]? = some (.fz (.int a')) ∧ r = (.int b, false) ∧ E.nx (s1.set i (.fz (.int (op a' b)))) := by
    funext r s1
    refine propext ⟨fun ⟨b, e, q⟩ => ⟨a, b, h, e, q⟩, fun ⟨a', b, e1, e, q⟩ => ?_⟩
    rw [h] at e1; cases e1
    exact ⟨b, e, q⟩
  rw [this] at q
  exact q⟩
theorem w_setL (q : f s fun r s1 => (∃ ds, s1[i]? = some (.ow (.list ds))) ∧ g s1 fun x s2 => ∃ (k : Int) (ds : List PyData) (j : Nat), x = (.int k, false) ∧ s2[i]? = some (.ow (.list ds)) ∧ ixN ds.length k = some j ∧ E.nx (s2.set i (.ow (.list (ds.set j r.1))))) : vSetL f i g s E := q
theorem w_setA {ds : List PyData} {R : Prop} (h : s[i]? = some (.ow (.list ds))) (q : R) : (∃ ds, s[i]? = some (.ow (.list ds))) ∧ R := ⟨⟨ds, h⟩, q⟩
theorem w_setB {k : Int} {ds : List PyData} {j : Nat} {R : List PyData → Nat → Prop} (h : s[i]? = some (.ow (.list ds))) (h2 : ixN ds.length k = some j) (q : R ds j) : ∃ (k' : Int) (ds : List PyData) (j : Nat), (PyData.int k, false) = (PyData.int k', false) ∧ s[i]? = some (.ow (.list ds)) ∧ ixN ds.length k' = some j ∧ R ds j := ⟨k, ds, j, rfl, h, h2, q⟩
end
end
section
variable {K : PySem.W.Frag}
/-- a comprehension over a list that a slot owns, and owns still behind it -/
def lcB (i : Nat) (e0 : PyData) (g : FG) (ft : FT) (fe : FE) (vs : List Nat) (Pd : List PyData → VS → Prop) : List PyData → List PyData → VS → Prop
  | [], acc, s => s[i]? = some (.ow e0) ∧ Pd acc s
  | d :: ds, acc, s => s[i]? = some (.ow e0) ∧ g d (wipeV s vs) fun s1 => ft s1 fun b s2 => if b = true then fe s2 fun r s3 => acc.length < sizeLine ∧ lcB i e0 g ft fe vs Pd ds (acc ++ [r.1]) s3 else lcB i e0 g ft fe vs Pd ds acc s2
def vLcB (i : Nat) (g : FG) (ft : FT) (fe : FE) (vs : List Nat) : FE := fun s P => ∃ ds, s[i]? = some (.ow (.list ds)) ∧ lcB i (.list ds) g ft fe vs (fun ys s' => P (.list ys, true) (backV s s' vs)) ds [] s
theorem lcB_at {i : Nat} {e0 : PyData} {g : FG} {ft : FT} {fe : FE} {vs : List Nat} {Pd : List PyData → VS → Prop} : ∀ {ds acc s}, lcB i e0 g ft fe vs Pd ds acc s → s[i]? = some (.ow e0)
  | [], _, _, h => h.1
  | _ :: _, _, _, h => h.1
theorem le_lcB {i : Nat} {tg : TG} {tt : TT} {te : TE} {g : FG} {ft : FT} {fe : FE} {vs : List Nat} (ni : i ∉ vs) (hg : LG K tg g) (hw : GIn tg vs) (ht : LT K tt ft) (he : LE K te fe) : LE K (tLc (iList K (tVar i)) tg tt te vs) (vLcB i g ft fe vs) := ⟨fun C A σ H s P Q R0 p q => by
  obtain ⟨ds, es, p1⟩ := p
  obtain ⟨o1, o2, o3⟩ := R0.ow i _ es
  obtain ⟨a0, xs0, ea0, el0, ra0⟩ := o2.2
  refine ⟨_, o1, A.ad i, rfl, ⟨xs0, by cases ea0; exact SqL.of el0⟩, ?_⟩
  intro D hD
  have nD : ¬ C.N D := fun z => R0.nn D z hD
  have h0D := R0.new0 hD
  refine ⟨fun j m H' => m = ds.length - j ∧ j ≤ ds.length ∧ ∃ s' acc ws, H' D = some (.lst ws) ∧ RepA K (M (C.add D) A (wipeV s' vs)) H' ws acc ∧ R K (C.add D) A (L2.wipe σ vs) H' (wipeV s' vs) ∧ Fr A s H H' ∧ Dem s (wipeV s' vs) ∧
    lcB i (.list ds) g ft fe vs (fun ys s' => P (.list ys, true) (backV s s' vs)) (ds.drop j) acc s', ⟨_, rfl, Nat.zero_le _, s, [], [], upd_same, .nil, (R0.add (same_upd hD) hD (by rw [upd_same]; exact fun z => nomatch z)).wipe, Fr.mut .refl hD, wipeV_dem, by simpa using p1⟩, ?_⟩
  rintro j m H' ⟨rfl, hj, s', acc, ws, eD, ra, r', f', dm', pl⟩
  have hN : ∀ a o, H a = some o → ¬ M C A s a → H' a = some o ∧ ¬ M (C.add D) A (wipeV s' vs) a := fun a o e n => ⟨f'.go a o e n, fun z => by
    rw [M_add] at z
    rcases z with z | z
    · exact n (dm'.m z)
    · rw [z, hD] at e; cases e⟩
  have es' : (wipeV s' vs)[i]? = some (.ow (.list ds)) := by rw [wipeV_ne ni]; exact lcB_at pl
  obtain ⟨_, u2, _⟩ := r'.ow i _ es'
  obtain ⟨a1, xs, ea1, el, rx⟩ := u2.2
  cases ea1
  have sq : SqL K H' (A.ad i) xs := SqL.of el
  have wl := walk_list (K := K) (a := A.ad i) (xs := xs)
  by_cases hlt : j < ds.length
  · have e := List.getElem?_eq_getElem hlt
    have hx : j < xs.length := by rw [rx.len]; exact hlt
    rw [List.drop_eq_getElem_cons hlt] at pl
    refine .inr ⟨wl.goes j H' hx sq, fun H2 => ∃ s' acc ws, H2 D = some (.lst ws) ∧ RepA K (M (C.add D) A (wipeV s' vs)) H2 ws acc ∧ R K (C.add D) A (L2.wipe σ vs) H2 (wipeV s' vs) ∧ Fr A s H H2 ∧ Dem s (wipeV s' vs) ∧
      lcB i (.list ds) g ft fe vs (fun ys s' => P (.list ys, true) (backV s s' vs)) (ds.drop (j + 1)) acc s', ?_, ?_⟩
    · rintro H2 h
      exact ⟨_, by omega, rfl, hlt, h⟩
    · intro x H'' y
      obtain ⟨eh, ex⟩ := wl.yields j H' x H'' hx sq y
      subst eh
      obtain ⟨w, ew, rp⟩ := rx.get e
      rw [ew] at ex; cases ex
      refine hw.mono _ _ _ _ _ (hw.run x _ σ H'' (fun σ2 H2 => ∃ s2, (ft s2 fun b s2 => if b = true then fe s2 fun r s3 => acc.length < sizeLine ∧ lcB i (.list ds) g ft fe vs (fun ys s' => P (.list ys, true) (backV s s' vs)) (ds.drop (j + 1)) (acc ++ [r.1]) s3 else lcB i (.list ds) g ft fe vs (fun ys s' => P (.list ys, true) (backV s s' vs)) (ds.drop (j + 1)) acc s2) ∧ R K (C.add D) A σ2 H2 s2 ∧ Dem (wipeV s' vs) s2 ∧ H2 = H'') wipe_wipe
        (hg.run (C.add D) A (L2.wipe σ vs) H'' (wipeV s' vs) x _ _ _ r' rp pl.2 fun σ2 s2 p2 r2 dm2 => ⟨s2, p2, r2, dm2, rfl⟩)) ?_
      rintro σ2 H2 ⟨ew, s2, p2, r2, dm2, rfl⟩
      refine ⟨ew, ht.run (C.add D) A σ2 H2 s2 _ _ r2 p2 fun H3 b s3 p3 r3 fr3 dm3 => ?_⟩
      have F3 : Fr A s H H3 := f'.trans (dm'.trans dm2) fr3
      have D3 := (dm'.trans dm2).trans dm3
      have eD3 : H3 D = some (.lst ws) := fr3.go (C := C) D _ eD (r2.off nD)
      have ra3 : RepA K (M (C.add D) A s3) H3 ws acc := repA_keep fr3 dm3 (repA_sub (fun x z => dm2.m z) ra)
      cases b with
      | false =>
        rw [if_neg Bool.false_ne_true] at p3
        refine iteF ⟨s3, acc, ws, eD3, repA_sub (fun x z => wipeV_dem.m z) ra3, ?_, F3, D3.trans wipeV_dem, p3⟩
        rw [← ew]; exact r3.wipe
      | true =>
        rw [if_pos rfl] at p3
        refine iteT (he.run (C.add D) A σ2 H3 s3 _ _ r3 p3 fun H4 y r s4 ⟨hl, p4⟩ o => ?_)
        obtain ⟨r4, rp4⟩ := o.er.fz
        have eD4 : H4 D = some (.lst ws) := o.fr.go (C := C) D _ eD3 (r3.off nD)
        refine ⟨ws, eD4, by rw [ra3.len]; exact hl, s4, _, _, upd_same, ?_, ?_, Fr.mut (F3.trans D3 o.fr) hD, (D3.trans o.dm).trans wipeV_dem, p4⟩
        · have ra4 : RepA K (M (C.add D) A s4) H4 (ws ++ [y]) (acc ++ [r.1]) := (repA_keep o.fr o.dm ra3).app (.cons rp4 .nil)
          refine RepA.go (fun _ _ e => sqt_of (fun b u q m => ?_) e) (fun b u q m => ⟨?_, fun z => m (wipeV_dem.m z)⟩) _ _ ra4
          · by_cases z : b = D
            · rw [z, eD4] at q; cases q; exact absurd trivial m
            · rw [upd_ne z]; exact q
          · rw [upd_ne fun z => m (.inl (.inr z))]; exact q
        · rw [← ew]
          exact (r4.putN (.inr rfl) h0D eD4).wipe
  · have : j = ds.length := by omega
    subst this
    rw [List.drop_length] at pl
    have st := wl.stops H' sq
    rw [rx.len] at st
    refine .inl ⟨st, q H' _ _ _ pl.2 ?_⟩
    obtain ⟨b1, b2, b3⟩ := R.back (s0 := s) r' (fun i d e => by
      obtain ⟨v, q1, q2⟩ := R0.fz i d e
      exact ⟨v, q1, Rep.go (fun _ _ e => sqt_of f'.2 e) hN _ _ q2⟩) dm'
    exact ⟨f', b2, ⟨D, rfl, h0D, nD, b1, rfl, _, _, rfl, eD, repA_sub b3 ra⟩, fun b _ e => by cases e; exact .inl hD⟩⟩
theorem lcB_inv {i0 : Nat} {e0 : PyData} {tg : FG} {ft : FT} {fe : FE} {vs : List Nat} {Pd : List PyData → VS → Prop} (I : Nat → List PyData → VS → Prop) {ds acc : List PyData} {s : VS} (h0 : I 0 acc s) (hk : ∀ i acc s, I i acc s → s[i0]? = some (.ow e0))
    (hs : ∀ (i : Nat) (d : PyData) (acc : List PyData) (s : VS) (F : List PyData → VS → Prop), i < ds.length → ds[i]? = some d → I i acc s → (∀ acc' s', I (i + 1) acc' s' → F acc' s') →
      tg d (wipeV s vs) fun s1 => ft s1 fun b s2 => if b = true then fe s2 fun r s3 => acc.length < sizeLine ∧ F (acc ++ [r.1]) s3 else F acc s2)
    (hd : ∀ acc s, I ds.length acc s → Pd acc s) : lcB i0 e0 tg ft fe vs Pd ds acc s := by
  induction ds generalizing s I acc with
  | nil => exact ⟨hk _ _ _ h0, hd acc s h0⟩
  | cons d ds ih =>
    exact ⟨hk _ _ _ h0, hs 0 d acc s (fun acc' s' => lcB i0 e0 tg ft fe vs Pd ds acc' s') (by simp) rfl h0 fun acc' s' h' => ih (fun i acc s => I (i + 1) acc s) h' (fun i acc s h => hk (i + 1) acc s h) (fun i d acc s F hi e h hF => hs (i + 1) d acc s F (by simpa using hi) (by simpa using e) h hF) (fun acc s h => hd acc s (by simpa using h))⟩
theorem w_lcB {i : Nat} {g : FG} {ft : FT} {fe : FE} {vs : List Nat} {s : VS} {P : PyData × Bool → VS → Prop} {ds : List PyData} (h : s[i]? = some (.ow (.list ds))) (q : lcB i (.list ds) g ft fe vs (fun ys s' => P (.list ys, true) (backV s s' vs)) ds [] s) : vLcB i g ft fe vs s P := ⟨ds, h, q⟩
end
theorem eqv_int (a b : Int) : PyData.eqv (.int a) (.int b) = decide (a = b) := by
  show (a == b) = _
  by_cases h : a = b <;> simp [h]
theorem eqv_pair (a b c d : Int) : PyData.eqv (.tuple [.int a, .int b]) (.tuple [.int c, .int d]) = (decide (a = c) && decide (b = d)) := by
  show (PyData.eqv (.int a) (.int c) && (PyData.eqv (.int b) (.int d) && true)) = _
  rw [eqv_int, eqv_int, Bool.and_true]
theorem eqv_ints : ∀ xs ys : List Int, PyData.eqvAll (xs.map .int) (ys.map .int) = decide (xs = ys)
  | [], [] => rfl
  | [], _ :: _ => rfl
  | _ :: _, [] => rfl
  | x :: xs, y :: ys => by
    show (PyData.eqv (.int x) (.int y) && PyData.eqvAll (xs.map .int) (ys.map .int)) = _
    rw [eqv_int, eqv_ints xs ys, ← Bool.decide_and]
    exact decide_eq_decide.mpr (by simp)
theorem eqv_intL (xs ys : List Int) : PyData.eqv (.list (xs.map .int)) (.list (ys.map .int)) = decide (xs = ys) := eqv_ints xs ys
theorem o_eqP {a b c d : Int} {k : KO} (q : k (.bool (decide (a = c) && decide (b = d)), false)) : fEq (.tuple [.int a, .int b]) (.tuple [.int c, .int d]) k := o_eq rfl (by rw [eqv_pair]; exact q)
theorem canLay_ints : ∀ xs : List Int, PyData.canLayAll0 (xs.map .int) = true
  | [] => rfl
  | x :: xs => by
    show (PyData.canLay0 (.int x) && PyData.canLayAll0 (xs.map .int)) = true
    rw [canLay_ints xs]; rfl
theorem depth_ints : ∀ xs : List Int, PyData.depthAll (xs.map .int) = 0
  | [] => rfl
  | x :: xs => by
    show max (PyData.depth (.int x)) (PyData.depthAll (xs.map .int)) = 0
    rw [depth_ints xs]; rfl
theorem shaped_ints (xs : List Int) : SeqAt.shaped (.list (xs.map .int)) = true := by
  unfold SeqAt.shaped
  rw [show PyData.canLay0 (.list (xs.map .int)) = true from canLay_ints xs, show PyData.depth (.list (xs.map .int)) = 1 from by show PyData.depthAll (xs.map .int) + 1 = 1; rw [depth_ints]]
  rfl
theorem eqOk_ints (xs ys : List Int) : eqOk (.list (xs.map .int)) (.list (ys.map .int)) = true := by
  unfold eqOk
  rw [shaped_ints, shaped_ints]; rfl
theorem o_eqIs {xs ys : List Int} {k : KO} (q : k (.bool (decide (xs = ys)), false)) : fEq (.list (xs.map .int)) (.list (ys.map .int)) k := o_eq (eqOk_ints xs ys) (by rw [eqv_intL]; exact q)
theorem o_neIs {xs ys : List Int} {k : KO} (q : k (.bool (!decide (xs = ys)), false)) : fNe (.list (xs.map .int)) (.list (ys.map .int)) k := o_ne (eqOk_ints xs ys) (by rw [eqv_intL]; exact q)
end EV
namespace EV
open PySem PySem.Spec PyProof.Rows L2 D0
section
variable {K : PySem.W.Frag}
theorem repK_len {N : Addr → Prop} {H : Hp} : ∀ {kvs : List (Key × V)} {es : List (PyData × PyData)}, RepK K N H kvs es → kvs.length = es.length
  | _, _, .nil => rfl
  | _, _, .cons _ t => congrArg (· + 1) (repK_len t)
theorem repK_snoc {N : Addr → Prop} {H : Hp} {k : Key} {v : V} {d : PyData} : ∀ {kvs : List (Key × V)} {es : List (PyData × PyData)}, RepK K N H kvs es → Rep K N H v d → RepK K N H (kvs ++ [(k, v)]) (es ++ [(keyD k, d)])
  | _, _, .nil, h => .cons h .nil
  | _, _, .cons a t, h => .cons a (repK_snoc t h)
theorem repK_any {N : Addr → Prop} {H : Hp} {k : Key} : ∀ {kvs : List (Key × V)} {es : List (PyData × PyData)}, RepK K N H kvs es → (∀ e ∈ es, e.1 ≠ keyD k) → (kvs.any fun kv => decide (kv.1 = k)) = false
  | _, _, .nil, _ => rfl
  | _, _, .cons (k := k') (v := v) a t, h => by
    rw [List.any_cons, repK_any t fun e he => h e (List.mem_cons_of_mem _ he), Bool.or_false]
    exact decide_eq_false fun z => h _ List.mem_cons_self (by show keyD k' = keyD k; rw [show k' = k from z])
theorem rep_key {N : Addr → Prop} {H : Hp} {y : V} {k : Key} (h : Rep K N H y (keyD k)) : y = kV k := by
  cases k <;> (cases h; rfl)
def dcV (g : FG) (ft : FT) (fk fv : FE) (vs : List Nat) (P : List (PyData × PyData) → VS → Prop) : List PyData → List (PyData × PyData) → VS → Prop
  | [], acc, s => P acc s
  | d :: ds, acc, s => g d (wipeV s vs) fun s1 => ft s1 fun b s2 => if b = true then fk s2 fun y s3 => fv s3 fun z s4 => ∃ k : Key, y.1 = keyD k ∧ (∀ e ∈ acc, e.1 ≠ keyD k) ∧ acc.length < sizeLine ∧ dcV g ft fk fv vs P ds (acc ++ [(keyD k, z.1)]) s4 else dcV g ft fk fv vs P ds acc s2
def vDc (fi : FI) (g : FG) (ft : FT) (fk fv : FE) (vs : List Nat) : FE := fun s P => fi s fun ds s1 => dcV g ft fk fv vs (fun es s' => P (.dict es, true) (backV s1 s' vs)) ds [] s1
theorem le_dc {wi : TI} {tg : TG} {tt : TT} {tk tv : TE} {fi : FI} {g : FG} {ft : FT} {fk fv : FE} {vs : List Nat} (hi : LI K wi fi) (hg : LG K tg g) (hw : GIn tg vs) (ht : LT K tt ft) (hk : LE K tk fk) (hv : LE K tv fv) : LE K (tDc wi tg tt tk tv vs) (vDc fi g ft fk fv vs) := ⟨fun C A σ H s P Q R0 p q => by
  refine hi.run C A σ H s _ _ R0 p fun H1 J ds s1 p1 r1 fr dm it => ?_
  intro D hD
  have nD : ¬ C.N D := fun z => r1.nn D z hD
  have h0D := r1.new0 hD
  refine ⟨fun i m H' => m = ds.length - i ∧ i ≤ ds.length ∧ ∃ s' acc kvs, H' D = some (.dK kvs) ∧ RepK K (M (C.add D) A (wipeV s' vs)) H' kvs acc ∧ R K (C.add D) A (L2.wipe σ vs) H' (wipeV s' vs) ∧ Fr A s1 H1 H' ∧ Dem s1 (wipeV s' vs) ∧
    dcV g ft fk fv vs (fun es s' => P (.dict es, true) (backV s1 s' vs)) (ds.drop i) acc s', ⟨_, rfl, Nat.zero_le _, s1, [], [], upd_same, .nil, (r1.add (same_upd hD) hD (by rw [upd_same]; exact fun z => nomatch z)).wipe, Fr.mut .refl hD, wipeV_dem, by simpa using p1⟩, ?_⟩
  rintro i m H' ⟨rfl, hi, s', acc, kvs, eD, ra, r', f', dm', pl⟩
  have hN : ∀ a o, H1 a = some o → ¬ M C A s1 a → H' a = some o ∧ ¬ M (C.add D) A (wipeV s' vs) a := fun a o e n => ⟨f'.go a o e n, fun z => by
    rw [M_add] at z
    rcases z with z | z
    · exact n (dm'.m z)
    · rw [z, hD] at e; cases e⟩
  have rsub : ∀ {N N' : Addr → Prop} {H : Hp} {kvs : List (Key × V)} {es : List (PyData × PyData)}, (∀ a, N' a → N a) → RepK K N H kvs es → RepK K N' H kvs es := fun h r => RepK.go (fun _ _ e => e) (fun a o e n => ⟨e, fun z => n (h a z)⟩) _ _ r
  have rkeep : ∀ {s s' : VS} {H H' : Hp} {kvs : List (Key × V)} {es : List (PyData × PyData)}, Fr A s H H' → Dem s s' → RepK K (M (C.add D) A s) H kvs es → RepK K (M (C.add D) A s') H' kvs es := fun x m r => RepK.go (fun _ _ => x.sqt) (fun a o e n => ⟨x.go a o e n, fun z => n (m.m z)⟩) _ _ r
  obtain ⟨st, go⟩ := it _ H' hN f'.2
  by_cases hlt : i < ds.length
  · have e := List.getElem?_eq_getElem hlt
    obtain ⟨g1, y1⟩ := go i _ e
    rw [List.drop_eq_getElem_cons hlt] at pl
    refine .inr ⟨g1, fun H2 => ∃ s' acc kvs, H2 D = some (.dK kvs) ∧ RepK K (M (C.add D) A (wipeV s' vs)) H2 kvs acc ∧ R K (C.add D) A (L2.wipe σ vs) H2 (wipeV s' vs) ∧ Fr A s1 H1 H2 ∧ Dem s1 (wipeV s' vs) ∧
      dcV g ft fk fv vs (fun es s' => P (.dict es, true) (backV s1 s' vs)) (ds.drop (i + 1)) acc s', ?_, ?_⟩
    · rintro H2 h
      exact ⟨_, by omega, rfl, hlt, h⟩
    · intro x H'' y
      obtain ⟨sm, rp⟩ := y1 x H'' y
      have eD2 := sm _ _ eD
      refine hw.mono _ _ _ _ _ (hw.run x _ σ H'' (fun σ2 H2 => ∃ s2, (ft s2 fun b s2 => if b = true then fk s2 fun y s3 => fv s3 fun z s4 => ∃ k : Key, y.1 = keyD k ∧ (∀ e ∈ acc, e.1 ≠ keyD k) ∧ acc.length < sizeLine ∧ dcV g ft fk fv vs (fun es s' => P (.dict es, true) (backV s1 s' vs)) (ds.drop (i + 1)) (acc ++ [(keyD k, z.1)]) s4 else dcV g ft fk fv vs (fun es s' => P (.dict es, true) (backV s1 s' vs)) (ds.drop (i + 1)) acc s2) ∧ R K (C.add D) A σ2 H2 s2 ∧ Dem (wipeV s' vs) s2 ∧ H2 = H'') wipe_wipe
        (hg.run (C.add D) A (L2.wipe σ vs) H'' (wipeV s' vs) x _ _ _ (r'.same sm) rp pl fun σ2 s2 p2 r2 dm2 => ⟨s2, p2, r2, dm2, rfl⟩)) ?_
      rintro σ2 H2 ⟨ew, s2, p2, r2, dm2, rfl⟩
      refine ⟨ew, ht.run (C.add D) A σ2 H2 s2 _ _ r2 p2 fun H3 b s3 p3 r3 fr3 dm3 => ?_⟩
      have F3 : Fr A s1 H1 H3 := (f'.trans dm' (.of_same sm)).trans (dm'.trans dm2) fr3
      have D3 := (dm'.trans dm2).trans dm3
      have eD3 : H3 D = some (.dK kvs) := fr3.go (C := C) D _ eD2 (r2.off nD)
      have ra3 : RepK K (M (C.add D) A s3) H3 kvs acc := rkeep fr3 dm3 (rkeep (.of_same (s := wipeV s' vs) sm) dm2 ra)
      cases b with
      | false =>
        rw [if_neg Bool.false_ne_true] at p3
        refine iteF ⟨s3, acc, kvs, eD3, rsub (fun x z => wipeV_dem.m z) ra3, ?_, F3, D3.trans wipeV_dem, p3⟩
        rw [← ew]; exact r3.wipe
      | true =>
        rw [if_pos rfl] at p3
        refine iteT (hk.run (C.add D) A σ2 H3 s3 _ _ r3 p3 fun H4 y ry s4 p4 o4 => ?_)
        obtain ⟨r4, rp4⟩ := o4.er.fz
        have eD4 : H4 D = some (.dK kvs) := o4.fr.go (C := C) D _ eD3 (r3.off nD)
        refine hv.run (C.add D) A σ2 H4 s4 _ _ r4 p4 fun H5 z rz s5 ⟨k, ek, hn, hl, p5⟩ o5 => ?_
        obtain ⟨r5, rp5⟩ := o5.er.fz
        have eD5 : H5 D = some (.dK kvs) := o5.fr.go (C := C) D _ eD4 (r4.off nD)
        have ra5 : RepK K (M (C.add D) A s5) H5 kvs acc := rkeep o5.fr o5.dm (rkeep o4.fr o4.dm ra3)
        rw [ek] at rp4
        have put : putK kvs k z = kvs ++ [(k, z)] := by
          unfold putK
          rw [repK_any ra5 hn, if_neg Bool.false_ne_true]
        refine ⟨kvs, k, rep_key rp4, eD5, by rw [repK_len ra5]; exact hl, ?_⟩
        rw [put]
        refine ⟨s5, _, _, upd_same, ?_, ?_, Fr.mut ((F3.trans D3 o4.fr).trans (D3.trans o4.dm) o5.fr) hD, ((D3.trans o4.dm).trans o5.dm).trans wipeV_dem, p5⟩
        · refine RepK.go (fun _ _ e => sqt_of (fun b u q m => ?_) e) (fun b u q m => ⟨?_, fun z => m (wipeV_dem.m z)⟩) _ _ (repK_snoc (k := k) ra5 rp5)
          · by_cases z : b = D
            · rw [z, eD5] at q; cases q; exact absurd trivial m
            · rw [upd_ne z]; exact q
          · rw [upd_ne fun z => m (.inl (.inr z))]; exact q
        · rw [← ew]
          exact (r5.putD (.inr rfl) h0D eD5).wipe
  · have : i = ds.length := by omega
    subst this
    rw [List.drop_length] at pl
    refine .inl ⟨st, q H' _ _ _ pl (.after fr dm ?_)⟩
    obtain ⟨b1, b2, b3⟩ := R.back (s0 := s1) r' (fun i d e => by
      obtain ⟨v, q1, q2⟩ := r1.fz i d e
      exact ⟨v, q1, Rep.go (fun _ _ e => sqt_of f'.2 e) hN _ _ q2⟩) dm'
    exact ⟨f', b2, ⟨D, rfl, h0D, nD, b1, rfl, D, rfl, .inl ⟨_, eD, rsub b3 ra⟩⟩, fun b _ e => by cases e; exact .inl hD⟩⟩
theorem dc_inv {tg : FG} {ft : FT} {fk fv : FE} {vs : List Nat} {Pd : List (PyData × PyData) → VS → Prop} (I : Nat → List (PyData × PyData) → VS → Prop) {ds : List PyData} {acc : List (PyData × PyData)} {s : VS} (h0 : I 0 acc s)
    (hs : ∀ (i : Nat) (d : PyData) (acc : List (PyData × PyData)) (s : VS) (F : List (PyData × PyData) → VS → Prop), i < ds.length → ds[i]? = some d → I i acc s → (∀ acc' s', I (i + 1) acc' s' → F acc' s') →
      tg d (wipeV s vs) fun s1 => ft s1 fun b s2 => if b = true then fk s2 fun y s3 => fv s3 fun z s4 => ∃ k : Key, y.1 = keyD k ∧ (∀ e ∈ acc, e.1 ≠ keyD k) ∧ acc.length < sizeLine ∧ F (acc ++ [(keyD k, z.1)]) s4 else F acc s2)
    (hd : ∀ acc s, I ds.length acc s → Pd acc s) : dcV tg ft fk fv vs Pd ds acc s := by
  induction ds generalizing s I acc with
  | nil => exact hd acc s h0
  | cons d ds ih =>
    exact hs 0 d acc s (fun acc' s' => dcV tg ft fk fv vs Pd ds acc' s') (by simp) rfl h0 fun acc' s' h' => ih (fun i acc s => I (i + 1) acc s) h' (fun i d acc s F hi e h hF => hs (i + 1) d acc s F (by simpa using hi) (by simpa using e) h hF) (fun acc s h => hd acc s (by simpa using h))
theorem w_dc {fi : FI} {g : FG} {ft : FT} {fk fv : FE} {vs : List Nat} {s : VS} {P : PyData × Bool → VS → Prop} (q : fi s fun ds s1 => dcV g ft fk fv vs (fun es s' => P (.dict es, true) (backV s1 s' vs)) ds [] s1) : vDc fi g ft fk fv vs s P := q
/-- xs.count(k), ints -/
def vCount (fb : FB) (fa : FA) : FE := fun s P => fb s fun x s1 => (∃ ns : List Int, rsv s1 x = some (.list (ns.map .int))) ∧ fa s1 fun xs s2 => ∃ (ns : List Int) (k : Int), rsv s2 x = some (.list (ns.map .int)) ∧ rsvA s2 xs = some [.int k] ∧ P (.int (ns.count k : Nat), false) s2
theorem le_cnt {to : TE} {t : TA} {fb : FB} {fa : FA} (hb : LB K to fb) (ha : LA K t fa) : LE K (tBM K "list" (rCntI K) to t) (vCount fb fa) := ⟨fun C A σ H s P Q R0 p q => by
  refine hb.run C A σ H s _ _ R0 p fun H1 v bv s1 ⟨⟨ns, e⟩, p1⟩ R1 fr dm br => ?_
  obtain ⟨a, rfl, sq⟩ := loose_ints (br.loose R1 e)
  refine ⟨.inl ⟨rfl, _, sq⟩, ha.run C A σ H1 s1 _ _ R1 p1 fun H2 vs bvs s2 ⟨ns2, k, e2, e3, px⟩ R2 fr2 dm2 brs => ?_⟩
  obtain ⟨a2, ea, sq2⟩ := loose_ints ((br.keep fr2 dm2).loose R2 e2)
  cases ea
  obtain ⟨v', rfl, h⟩ := la1 (looseA R2 brs e3)
  cases h
  exact ⟨a, ns2, k, rfl, rfl, sq2, q H2 _ _ s2 px (.plain (fr.trans dm fr2) (dm.trans dm2) R2 (.int _))⟩⟩
theorem w_cnt1 {fb : FB} {fa : FA} {s : VS} {P : PyData × Bool → VS → Prop} (q : fb s fun x s1 => (∃ ns : List Int, rsv s1 x = some (.list (ns.map .int))) ∧ fa s1 fun xs s2 => ∃ (ns : List Int) (k : Int), rsv s2 x = some (.list (ns.map .int)) ∧ rsvA s2 xs = some [.int k] ∧ P (.int (ns.count k : Nat), false) s2) : vCount fb fa s P := q
/-- if xs, of a list or a tuple -/
def vTru (fb : FB) : FT := fun s P => fb s fun x s1 => ∃ d ds, rsv s1 x = some d ∧ seqOf d = some ds ∧ P (!ds.isEmpty) s1
theorem lt_tru {ta : TE} {fb : FB} (h : LB K ta fb) : LT K (fun σ H Q => ta σ H fun x H' => ∃ k, TruV K x H' k ∧ Q k H') (vTru fb) := ⟨fun C A σ H s P Q R0 p q => by
  refine h.run C A σ H s _ _ R0 p fun H1 v bv s1 ⟨d, ds, e, es, px⟩ R1 fr dm br => ?_
  obtain ⟨a, xs, rfl, hq, ra⟩ := loose_seq (br.loose R1 e) es
  have he : xs.isEmpty = ds.isEmpty := by
    cases ra <;> rfl
  refine ⟨!ds.isEmpty, ?_, q H1 _ s1 px R1 fr dm⟩
  rw [← he]
  rcases hq with ⟨_, h⟩ | ⟨_, h⟩
  · exact .inl ⟨xs, h, rfl⟩
  · exact .inr (.inl ⟨xs, h.sqt, rfl⟩)⟩
theorem w_tru {fb : FB} {s : VS} {P : Bool → VS → Prop} (q : fb s fun x s1 => ∃ d ds, rsv s1 x = some d ∧ seqOf d = some ds ∧ P (!ds.isEmpty) s1) : vTru fb s P := q
end
end EV
namespace EV
open PySem PySem.Spec PyProof.Rows L2 D0
section
variable {K : PySem.W.Frag}
def fInX (neg : Bool) (d e : PyData) (k : KO) : Prop := fInG neg d e k ∨ ∃ ds, e = .tuple ds ∧ SeqAt.shaped d = true ∧ SeqAt.shaped (.tuple ds) = true ∧ k (.bool (if neg then !ds.any (fun z => PyData.eqv z d) else ds.any fun z => PyData.eqv z d), false)
abbrev fIn2 := fInX false
abbrev fNin2 := fInX true
theorem ol_in2 : OpL2 K (rInV2 K) fIn2 := fun N H u v d e k Q nk hu hv hf q => by
  rcases hf with hf | ⟨ds, rfl, h1, h2, hk⟩
  · exact .inl (inG hu hv hf q)
  · exact .inr ⟨d, ds, hu.dp (shaped_lay h1), hv.dp (shaped_lay h2), h1, h2, q _ _ _ hk out_bl⟩
theorem ol_nin2 : OpL2 K (rNinV2 K) fNin2 := fun N H u v d e k Q nk hu hv hf q => by
  rcases hf with hf | ⟨ds, rfl, h1, h2, hk⟩
  · exact .inl (inG hu hv hf q)
  · exact .inr ⟨d, ds, hu.dp (shaped_lay h1), hv.dp (shaped_lay h2), h1, h2, q _ _ _ hk out_bl⟩
def fSortD (ds : List PyData) (k : KO) : Prop := ∃ e es, ds = [e] ∧ seqOf e = some es ∧ PyData.canLayAll0 es = true ∧ PySem.W.AllAlike es ∧ PySem.W.Sortable es ∧ (∀ d ∈ es, d.depth ≤ 60) ∧ k (.list (es.mergeSort (PySem.W.dataLe false id)), true)
theorem rep_zip {N : Addr → Prop} {H : Hp} : ∀ {xs : List V} {ds : List PyData}, RepA K N H xs ds → ∀ p ∈ xs.zip ds, Rep K N H p.1 p.2
  | _, _, .nil, p, h => nomatch h
  | _, _, .cons a b, p, h => by
    rcases List.mem_cons.mp h with rfl | h
    · exact a
    · exact rep_zip b p h
theorem rep_unzip {N : Addr → Prop} {H : Hp} : ∀ {ps : List (V × PyData)}, (∀ p ∈ ps, Rep K N H p.1 p.2) → RepA K N H (ps.map Prod.fst) (ps.map Prod.snd)
  | [], _ => .nil
  | p :: ps, h => .cons (h p List.mem_cons_self) (rep_unzip fun q hq => h q (List.mem_cons_of_mem _ hq))
theorem ol_sortD : OpLA K (rSortD K) fSortD := fun N H vs ds k Q nk hv ⟨e, es, e1, hs, lay, ha, so, dep, hk⟩ q => by
  subst e1
  obtain ⟨v, rfl, h⟩ := la1 hv
  obtain ⟨a, xs, rfl, hq, ra⟩ := loose_seq h hs
  refine ⟨a, xs, es, rfl, ?_, RepA.dp _ _ lay ra, ha, so, dep, fun ps p pm sn hp => q _ _ _ hk ?_⟩
  · rcases hq with ⟨_, hq⟩ | ⟨_, hq⟩
    · exact .inl hq
    · exact .inr hq.sqt
  · rw [← sn]
    exact out_lst hp (rep_unzip fun b hb => rep_zip ra b (pm.mem_iff.mp hb))
def fTopT (f : Int → Int → Int) (ds : List PyData) (k : KO) : Prop := ∃ n ms, ds = [.tuple ((n :: ms).map .int)] ∧ k (.int (List.foldl f n ms), false)
theorem ol_topT {f : Int → Int → Int} : OpLA K (rTopT K f) (fTopT f) := fun N H vs ds k Q nk hv ⟨n, ms, e, hk⟩ q => by
  subst e
  obtain ⟨v, rfl, h⟩ := la1 hv
  obtain ⟨a, xs, rfl, hq, ra⟩ := loose_seq h (es := (n :: ms).map .int) rfl
  rcases hq with ⟨z, _⟩ | ⟨_, hq⟩
  · cases z
  · rw [ra.ints] at hq
    exact ⟨a, n, ms, rfl, hq.sqt, q _ _ _ hk out_int⟩
def OpLK (K : PySem.W.Frag) (r : List V → List V → Hp → VK → Prop) (f : List PyData → List PyData → KO → Prop) : Prop := ∀ N H vs us ds es k Q, NOk N H → LooseA K N H vs ds → LooseA K N H us es → f ds es k → (∀ H' w x, k x → Out K N H H' w x → Q w H') → r vs us H Q
def vCallK (f : List PyData → List PyData → KO → Prop) (a b : FA) : FE := fun s P => a s fun xs s1 => b s1 fun ys s2 => ∃ ds es, rsvA s2 xs = some ds ∧ rsvA s2 ys = some es ∧ f ds es fun r => P r s2
theorem brs_keep {C : VC} {A : Dy} {σ : L2.St} {H H' : Hp} {s s' : VS} (x : Fr A s H H') (m : Dem s s') : ∀ {vs : List V} {bvs : List Bv}, Paired (BR K C A σ H s) vs bvs → Paired (BR K C A σ H' s') vs bvs
  | _, _, .nil => .nil
  | _, _, .cons h t => .cons (h.keep x m) (brs_keep x m t)
theorem le_cbk {ta tb : TA} {fa fb : FA} {r : List V → List V → Hp → VK → Prop} {f : List PyData → List PyData → KO → Prop} (ho : OpLK K r f) (ha : LA K ta fa) (hb : LA K tb fb) : LE K (tCKw r ta tb) (vCallK f fa fb) := ⟨fun C A σ H s P Q R0 p q => by
  refine ha.run C A σ H s _ _ R0 p fun H1 vs bvs s1 p1 R1 fr dm brs => ?_
  refine hb.run C A σ H1 s1 _ _ R1 p1 fun H2 us cvs s2 ⟨ds, es, e1, e2, px⟩ R2 fr2 dm2 crs => ?_
  refine ho _ H2 vs us ds es _ _ R2.mok (looseA R2 (brs_keep fr2 dm2 brs) e1) (looseA R2 crs e2) px fun H3 w x kx o => ?_
  exact q H3 w x s2 kx (.after (fr.trans dm fr2) (dm.trans dm2) (out_er R2 o))⟩
def topD (z : Int) : List Int → Int
  | [] => z
  | n :: ms => List.foldl max n ms
def fMaxDef (ds es : List PyData) (k : KO) : Prop := ∃ (ns : List Int) (z : Int), ds = [.tuple (ns.map .int)] ∧ es = [.int z] ∧ k (.int (topD z ns), false)
theorem ol_maxDef : OpLK K (rMaxDef K) fMaxDef := fun N H vs us ds es k Q nk hv hu ⟨ns, z, e1, e2, hk⟩ q => by
  subst e1 e2
  obtain ⟨v, rfl, h⟩ := la1 hv
  obtain ⟨u, rfl, g⟩ := la1 hu
  cases g
  obtain ⟨a, xs, rfl, hq, ra⟩ := loose_seq h (es := ns.map .int) rfl
  rcases hq with ⟨e, _⟩ | ⟨_, hq⟩
  · cases e
  · rw [ra.ints] at hq
    refine ⟨a, ns, _, rfl, rfl, hq.sqt, fun e => ?_, fun n ms e => ?_⟩
    · subst e
      exact q _ _ _ hk out_int
    · subst e
      exact q _ _ _ hk out_int
end
section
variable {s : VS} {k : KO} {P : PyData × Bool → VS → Prop}
theorem o_inP {d : PyData} {ds : List PyData} (h1 : SeqAt.shaped d = true) (h2 : SeqAt.shaped (.list ds) = true) (q : k (.bool (ds.any fun z => PyData.eqv z d), false)) : fIn2 d (.list ds) k := .inl (.inr (.inl ⟨ds, rfl, h1, h2, q⟩))
theorem o_ninP {d : PyData} {ds : List PyData} (h1 : SeqAt.shaped d = true) (h2 : SeqAt.shaped (.list ds) = true) (q : k (.bool (!ds.any fun z => PyData.eqv z d), false)) : fNin2 d (.list ds) k := .inl (.inr (.inl ⟨ds, rfl, h1, h2, q⟩))
theorem o_inT {d : PyData} {ds : List PyData} (h1 : SeqAt.shaped d = true) (h2 : SeqAt.shaped (.tuple ds) = true) (q : k (.bool (ds.any fun z => PyData.eqv z d), false)) : fIn2 d (.tuple ds) k := .inr ⟨ds, rfl, h1, h2, q⟩
theorem o_ninT {d : PyData} {ds : List PyData} (h1 : SeqAt.shaped d = true) (h2 : SeqAt.shaped (.tuple ds) = true) (q : k (.bool (!ds.any fun z => PyData.eqv z d), false)) : fNin2 d (.tuple ds) k := .inr ⟨ds, rfl, h1, h2, q⟩
theorem o_in1 {d e : PyData} (q : fIn d e k) : fIn2 d e k := .inl q
theorem o_nin1 {d e : PyData} (q : fNin d e k) : fNin2 d e k := .inl q
theorem o_in2F {d e : PyData} {ds : List PyData} (h : seqOf e = some ds) (f : flatS d = true) (fa : ds.all flatS = true) (q : k (.bool (ds.any fun z => PyData.eqv z d), false)) : fIn2 d e k := .inl (o_in h f fa q)
theorem o_nin2F {d e : PyData} {ds : List PyData} (h : seqOf e = some ds) (f : flatS d = true) (fa : ds.all flatS = true) (q : k (.bool (!ds.any fun z => PyData.eqv z d), false)) : fNin2 d e k := .inl (o_nin h f fa q)
theorem w_callK {F : List PyData → List PyData → KO → Prop} {fa fb : FA} (q : fa s fun xs s1 => fb s1 fun ys s2 => ∃ ds es, rsvA s2 xs = some ds ∧ rsvA s2 ys = some es ∧ F ds es fun r => P r s2) : vCallK F fa fb s P := q
theorem w_ra2 {xs ys : List Bv} {ds es : List PyData} {R : List PyData → List PyData → Prop} (h : rsvA s xs = some ds) (h2 : rsvA s ys = some es) (q : R ds es) : ∃ ds es, rsvA s xs = some ds ∧ rsvA s ys = some es ∧ R ds es := ⟨ds, es, h, h2, q⟩
theorem o_maxDef {ns : List Int} {z : Int} (q : k (.int (topD z ns), false)) : fMaxDef [.tuple (ns.map .int)] [.int z] k := ⟨ns, z, rfl, rfl, q⟩
theorem foldl_max_mem : ∀ (ms : List Int) (n : Int), List.foldl max n ms ∈ n :: ms ∧ ∀ y ∈ n :: ms, y ≤ List.foldl max n ms
  | [], n => ⟨by simp, fun y hy => by simp at hy; rw [hy]; exact Int.le_refl _⟩
  | m :: ms, n => by
    obtain ⟨h1, h2⟩ := foldl_max_mem ms (max n m)
    rw [List.foldl_cons]
    refine ⟨?_, fun y hy => ?_⟩
    · rcases List.mem_cons.mp h1 with e | h
      · rw [e]
        rcases Int.le_total n m with h | h
        · rw [Int.max_eq_right h]; simp
        · rw [Int.max_eq_left h]; simp
      · exact List.mem_cons_of_mem _ (List.mem_cons_of_mem _ h)
    · have h3 := h2 (max n m) List.mem_cons_self
      rcases List.mem_cons.mp hy with rfl | hy
      · omega
      · rcases List.mem_cons.mp hy with rfl | hy
        · omega
        · exact h2 y (List.mem_cons_of_mem _ hy)
theorem o_maxT {ns : List Int} (h : ns ≠ []) (q : ∀ m, m ∈ ns → (∀ y, y ∈ ns → y ≤ m) → k (.int m, false)) : fTopT max [.tuple (ns.map .int)] k := by
  cases ns with
  | nil => exact absurd rfl h
  | cons n ms => exact ⟨n, ms, rfl, q _ (foldl_max_mem ms n).1 (foldl_max_mem ms n).2⟩
theorem foldl_min_mem : ∀ (ms : List Int) (n : Int), List.foldl min n ms ∈ n :: ms ∧ ∀ y ∈ n :: ms, List.foldl min n ms ≤ y
  | [], n => ⟨by simp, fun y hy => by simp at hy; rw [hy]; exact Int.le_refl _⟩
  | m :: ms, n => by
    obtain ⟨h1, h2⟩ := foldl_min_mem ms (min n m)
    rw [List.foldl_cons]
    refine ⟨?_, fun y hy => ?_⟩
    · rcases List.mem_cons.mp h1 with e | h
      · rw [e]
        rcases Int.le_total n m with h | h
        · rw [Int.min_eq_left h]; simp
        · rw [Int.min_eq_right h]; simp
      · exact List.mem_cons_of_mem _ (List.mem_cons_of_mem _ h)
    · have h3 := h2 (min n m) List.mem_cons_self
      rcases List.mem_cons.mp hy with rfl | hy
      · omega
      · rcases List.mem_cons.mp hy with rfl | hy
        · omega
        · exact h2 y (List.mem_cons_of_mem _ hy)
theorem o_minT {ns : List Int} (h : ns ≠ []) (q : ∀ m, m ∈ ns → (∀ y, y ∈ ns → m ≤ y) → k (.int m, false)) : fTopT min [.tuple (ns.map .int)] k := by
  cases ns with
  | nil => exact absurd rfl h
  | cons n ms => exact ⟨n, ms, rfl, q _ (foldl_min_mem ms n).1 (foldl_min_mem ms n).2⟩
/-- sorted, by what the items stand for -/
theorem o_sortB {β : Type} (enc : β → PyData) (le : β → β → Bool) {e : PyData} {bs : List β} (hs : seqOf e = some (bs.map enc)) (lay : PyData.canLayAll0 (bs.map enc) = true) (ha : PySem.W.AllAlike (bs.map enc)) (so : PySem.W.Sortable (bs.map enc)) (dep : ∀ b ∈ bs, (enc b).depth ≤ 60)
    (hle : PySem.W.dataLe false enc = le) (q : k (.list ((bs.mergeSort le).map enc), true)) : fSortD [e] k := by
  refine ⟨e, _, rfl, hs, lay, ha, so, fun d hd => ?_, ?_⟩
  · obtain ⟨b, hb, rfl⟩ := List.mem_map.mp hd
    exact dep b hb
  · rw [← List.map_mergeSort (r := le) (fun a _ b _ => by rw [← hle]; rfl)]
    exact q
theorem layIs (xs : List Int) : PyData.canLayAll0 (xs.map .int) = true := by
  induction xs with
  | nil => rfl
  | cons x xs ih =>
    show (PyData.canLay0 (.int x) && PyData.canLayAll0 (xs.map .int)) = true
    rw [ih]; rfl
theorem o_sortIs {e : PyData} {ns : List Int} (hs : seqOf e = some (ns.map .int)) (q : k (.list ((ns.mergeSort fun a b => decide (a ≤ b)).map .int), true)) : fSortD [e] k := by
  refine o_sortB PyData.int (fun a b => decide (a ≤ b)) hs (layIs ns) ?_ (.others fun b => ⟨(fun z => nomatch z), fun xs z => nomatch z⟩) (fun b _ => Nat.zero_le _) (PySem.W.dataLe_int id) q
  exact .of fun b b' => by simp [PySem.W.alike]
def prD (p : Int × Int) : PyData := .tuple [.int p.1, .int p.2]
def prLe (p q : Int × Int) : Bool := decide (p.1 < q.1 ∨ (p.1 = q.1 ∧ p.2 ≤ q.2))
theorem layPs (xs : List (Int × Int)) : PyData.canLayAll0 (xs.map prD) = true := by
  induction xs with
  | nil => rfl
  | cons x xs ih =>
    show (PyData.canLay0 (prD x) && PyData.canLayAll0 (xs.map prD)) = true
    rw [ih]; rfl
theorem o_sortPs {e : PyData} {ns : List (Int × Int)} (hs : seqOf e = some (ns.map prD)) (q : k (.list ((ns.mergeSort prLe).map prD), true)) : fSortD [e] k := by
  refine o_sortB prD prLe hs (layPs ns) ?_ (.tuples fun b => ⟨_, _, rfl⟩) (fun b _ => by simp [prD, PyData.depth, PyData.depthAll]) (PySem.W.dataLe_ii (fun p : Int × Int => p.1) fun p => p.2) q
  exact .of fun b b' => by simp [prD, PySem.W.alike, PySem.W.alikeAll]
end
end EV
namespace EV
open PySem PySem.Spec PyProof.Rows L2 D0
theorem backV_same {s0 : VS} : ∀ {vs : List Nat} {s s' : VS}, wipeV s vs = wipeV s' vs → backV s0 s vs = backV s0 s' vs := by
  intro vs s s' h
  have hl : s.length = s'.length := by
    have := congrArg List.length h
    rwa [wipeV_len, wipeV_len] at this
  refine List.ext_getElem? fun i => ?_
  by_cases hi : i ∈ vs
  · have key : ∀ (ws : List Nat), i ∈ ws → (backV s0 s ws)[i]? = (backV s0 s' ws)[i]? := by
      intro ws
      induction ws with
      | nil => intro h; cases h
      | cons w ws ih =>
        intro h
        unfold backV
        rw [List.getElem?_set, List.getElem?_set, backV_len, backV_len, hl]
        by_cases e : w = i
        · rw [if_pos e, if_pos e]
        · rw [if_neg e, if_neg e]
          rcases List.mem_cons.mp h with q | q
          · exact absurd q.symm e
          · exact ih q
    exact key vs hi
  · rw [backV_ne hi, backV_ne hi, ← wipeV_ne (s := s) hi, ← wipeV_ne (s := s') hi, h]
theorem wipe_idem {s s' : VS} {vs : List Nat} (h : wipeV s' vs = wipeV s vs) : wipeV (wipeV s vs) vs = wipeV s vs := by
  refine List.ext_getElem? fun i => ?_
  by_cases hi : i ∈ vs
  · cases e : (wipeV (wipeV s vs) vs)[i]? with
    | none =>
      rw [List.getElem?_eq_none_iff, wipeV_len] at e
      rw [List.getElem?_eq_none_iff.mpr e]
    | some x =>
      have e2 := wipeV_mem hi e
      cases e3 : (wipeV s vs)[i]? with
      | none =>
        rw [List.getElem?_eq_none_iff] at e3
        rw [List.getElem?_eq_none_iff.mpr (by rw [wipeV_len]; exact e3)] at e
        cases e
      | some y => rw [e2, wipeV_mem hi e3]
  · rw [wipeV_ne hi]
/-- nd: each turn gives some data that fits -/
theorem lc_rel {β : Type} (xs : List β) (enc : β → PyData) (Rl : β → PyData → Prop) {tg : FG} {fe : FE} {vs : List Nat} {Pd : List PyData → VS → Prop} {s : VS} {ds : List PyData} (e : ds = xs.map enc) (hl : xs.length ≤ 100000)
    (hs : ∀ x ∈ xs, ∀ (T : PyData → VS → Prop), (∀ y s3, Rl x y → wipeV s3 vs = wipeV s vs → T y s3) → tg (enc x) (wipeV s vs) fun s1 => fe s1 fun r s3 => T r.1 s3)
    (hd : ∀ ys s', wipeV s' vs = wipeV s vs → Paired Rl xs ys → Pd ys s') : lcV tg vYes fe vs Pd ds [] s := by
  have key : ∀ (xs : List β) (done : List β) (acc : List PyData) (s' : VS), wipeV s' vs = wipeV s vs → Paired Rl done acc → acc.length + xs.length ≤ 100000 →
      (∀ x ∈ xs, ∀ (T : PyData → VS → Prop), (∀ y s3, Rl x y → wipeV s3 vs = wipeV s vs → T y s3) → tg (enc x) (wipeV s vs) fun s1 => fe s1 fun r s3 => T r.1 s3) →
      (∀ ys s', wipeV s' vs = wipeV s vs → Paired Rl (done ++ xs) ys → Pd ys s') → lcV tg vYes fe vs Pd (xs.map enc) acc s' := by
    intro xs
    induction xs with
    | nil =>
      intro done acc s' w p _ _ hd
      exact hd acc s' w (by rw [List.append_nil]; exact p)
    | cons x xs ih =>
      intro done acc s' w p hl hs hd
      show tg (enc x) (wipeV s' vs) fun s1 => fe s1 fun r s3 => acc.length < sizeLine ∧ lcV tg vYes fe vs _ (xs.map enc) (acc ++ [r.1]) s3
      rw [w]
      rw [List.length_cons] at hl
      refine hs x List.mem_cons_self (fun y s3 => acc.length < sizeLine ∧ lcV tg vYes fe vs _ (xs.map enc) (acc ++ [y]) s3) fun y s3 ry w3 => ⟨sz4' (by omega), ?_⟩
      refine ih (done ++ [x]) (acc ++ [y]) s3 w3 (Paired.app p (.cons ry .nil)) (by rw [List.length_append]; simp; omega) (fun x hx => hs x (List.mem_cons_of_mem _ hx)) fun ys s' w h => hd ys s' w ?_
      rw [List.append_assoc] at h
      exact h
  subst e
  exact key xs [] [] s rfl .nil (by simpa using hl) hs hd
/-- each turn keeps or drops x, and gives f x -/
theorem lc_map {β : Type} (xs : List β) (enc : β → PyData) (b : β → Bool) (f : β → PyData) {tg : FG} {ft : FT} {fe : FE} {vs : List Nat} {Pd : List PyData → VS → Prop} {s : VS} {ds : List PyData} (e : ds = xs.map enc) (hl : xs.length ≤ 100000)
    (hs : ∀ x ∈ xs, ∀ (T : PyData → VS → Prop) (T0 : VS → Prop), (b x = true → ∀ s3, wipeV s3 vs = wipeV s vs → T (f x) s3) → (b x = false → ∀ s3, wipeV s3 vs = wipeV s vs → T0 s3) →
      tg (enc x) (wipeV s vs) fun s1 => ft s1 fun k s2 => if k = true then fe s2 fun r s3 => T r.1 s3 else T0 s2)
    (hd : ∀ s', wipeV s' vs = wipeV s vs → Pd ((xs.filter b).map f) s') : lcV tg ft fe vs Pd ds [] s := by
  have key : ∀ (xs : List β) (acc : List PyData) (s' : VS), wipeV s' vs = wipeV s vs → acc.length + xs.length ≤ 100000 →
      (∀ x ∈ xs, ∀ (T : PyData → VS → Prop) (T0 : VS → Prop), (b x = true → ∀ s3, wipeV s3 vs = wipeV s vs → T (f x) s3) → (b x = false → ∀ s3, wipeV s3 vs = wipeV s vs → T0 s3) →
        tg (enc x) (wipeV s vs) fun s1 => ft s1 fun k s2 => if k = true then fe s2 fun r s3 => T r.1 s3 else T0 s2) →
      (∀ s', wipeV s' vs = wipeV s vs → Pd (acc ++ (xs.filter b).map f) s') → lcV tg ft fe vs Pd (xs.map enc) acc s' := by
    intro xs
    induction xs with
    | nil =>
      intro acc s' w _ _ hd
      have := hd s' w
      rw [List.filter_nil, List.map_nil, List.append_nil] at this
      exact this
    | cons x xs ih =>
      intro acc s' w hl hs hd
      show tg (enc x) (wipeV s' vs) fun s1 => ft s1 fun k s2 => if k = true then fe s2 fun r s3 => acc.length < sizeLine ∧ lcV tg ft fe vs _ (xs.map enc) (acc ++ [r.1]) s3 else lcV tg ft fe vs _ (xs.map enc) acc s2
      rw [w]
      rw [List.length_cons] at hl
      refine hs x List.mem_cons_self (fun y s3 => acc.length < sizeLine ∧ lcV tg ft fe vs _ (xs.map enc) (acc ++ [y]) s3) (fun s2 => lcV tg ft fe vs _ (xs.map enc) acc s2) (fun hb s3 w3 => ⟨sz4' (by omega), ?_⟩) fun hb s3 w3 => ?_
      · refine ih (acc ++ [f x]) s3 w3 (by rw [List.length_append]; simp; omega) (fun x hx => hs x (List.mem_cons_of_mem _ hx)) ?_
        rw [List.filter_cons, if_pos hb, List.map_cons] at hd
        rw [List.append_assoc]
        exact hd
      · refine ih acc s3 w3 (by omega) (fun x hx => hs x (List.mem_cons_of_mem _ hx)) ?_
        rw [List.filter_cons, if_neg (by rw [hb]; exact Bool.false_ne_true)] at hd
        exact hd
  subst e
  exact key xs [] s rfl (by simpa using hl) hs hd
/-- without an if -/
theorem lc_all {β : Type} (xs : List β) (enc : β → PyData) (f : β → PyData) {tg : FG} {fe : FE} {vs : List Nat} {Pd : List PyData → VS → Prop} {s : VS} {ds : List PyData} (e : ds = xs.map enc) (hl : xs.length ≤ 100000)
    (hs : ∀ x ∈ xs, ∀ (T : PyData → VS → Prop), (∀ s3, wipeV s3 vs = wipeV s vs → T (f x) s3) → tg (enc x) (wipeV s vs) fun s1 => fe s1 fun r s3 => T r.1 s3)
    (hd : ∀ s', wipeV s' vs = wipeV s vs → Pd (xs.map f) s') : lcV tg vYes fe vs Pd ds [] s := by
  refine lc_map xs enc (fun _ => true) f e hl (fun x hx T T0 hT _ => ?_) (by rw [List.filter_eq_self.mpr fun _ _ => rfl]; exact hd)
  exact hs x hx T (hT rfl)
/-- {k x: v x for x in xs}, the keys all different -/
theorem dc_all {β : Type} (xs : List β) (enc : β → PyData) (kf : β → Key) (f : β → PyData) {tg : FG} {fk fv : FE} {vs : List Nat} {Pd : List (PyData × PyData) → VS → Prop} {s : VS} {ds : List PyData} (e : ds = xs.map enc) (hl : xs.length ≤ 100000) (nd : (xs.map kf).Nodup)
    (hs : ∀ x ∈ xs, ∀ (T : PyData → PyData → VS → Prop), (∀ s3, wipeV s3 vs = wipeV s vs → T (keyD (kf x)) (f x) s3) → tg (enc x) (wipeV s vs) fun s1 => fk s1 fun y s3 => fv s3 fun z s4 => T y.1 z.1 s4)
    (hd : ∀ s', wipeV s' vs = wipeV s vs → Pd (xs.map fun x => (keyD (kf x), f x)) s') : dcV tg vYes fk fv vs Pd ds [] s := by
  have key : ∀ (xs : List β) (done : List β) (s' : VS), wipeV s' vs = wipeV s vs → done.length + xs.length ≤ 100000 → ((done ++ xs).map kf).Nodup →
      (∀ x ∈ xs, ∀ (T : PyData → PyData → VS → Prop), (∀ s3, wipeV s3 vs = wipeV s vs → T (keyD (kf x)) (f x) s3) → tg (enc x) (wipeV s vs) fun s1 => fk s1 fun y s3 => fv s3 fun z s4 => T y.1 z.1 s4) →
      (∀ s', wipeV s' vs = wipeV s vs → Pd ((done ++ xs).map fun x => (keyD (kf x), f x)) s') → dcV tg vYes fk fv vs Pd (xs.map enc) (done.map fun x => (keyD (kf x), f x)) s' := by
    intro xs
    induction xs with
    | nil =>
      intro done s' w _ _ _ hd
      have := hd s' w
      rw [List.append_nil] at this
      exact this
    | cons x xs ih =>
      intro done s' w hl nd hs hd
      show tg (enc x) (wipeV s' vs) fun s1 => fk s1 fun y s3 => fv s3 fun z s4 => ∃ k : Key, y.1 = keyD k ∧ (∀ e ∈ done.map fun x => (keyD (kf x), f x), e.1 ≠ keyD k) ∧ (done.map fun x => (keyD (kf x), f x)).length < sizeLine ∧ dcV tg vYes fk fv vs _ (xs.map enc) ((done.map fun x => (keyD (kf x), f x)) ++ [(keyD k, z.1)]) s4
      rw [w]
      rw [List.length_cons] at hl
      refine hs x List.mem_cons_self (fun y z s4 => ∃ k : Key, y = keyD k ∧ (∀ e ∈ done.map fun x => (keyD (kf x), f x), e.1 ≠ keyD k) ∧ (done.map fun x => (keyD (kf x), f x)).length < sizeLine ∧ dcV tg vYes fk fv vs _ (xs.map enc) ((done.map fun x => (keyD (kf x), f x)) ++ [(keyD k, z)]) s4) fun s3 w3 => ⟨kf x, rfl, fun e he => ?_, by rw [List.length_map]; exact sz4' (by omega), ?_⟩
      · obtain ⟨y, hy, rfl⟩ := List.mem_map.mp he
        rw [List.map_append, List.nodup_append] at nd
        intro q
        have q2 : kf y = kf x := by
          revert q
          show keyD (kf y) = keyD (kf x) → _
          cases kf y <;> cases kf x <;> simp [keyD]
        exact nd.2.2 _ (List.mem_map.mpr ⟨y, hy, rfl⟩) _ (by rw [List.map_cons]; exact List.mem_cons_self) q2
      · have := ih (done ++ [x]) s3 w3 (by rw [List.length_append]; simp; omega) (by rw [List.append_assoc]; exact nd) (fun x hx => hs x (List.mem_cons_of_mem _ hx)) (by rw [List.append_assoc]; exact hd)
        rw [List.map_append] at this
        exact this
  subst e
  exact key xs [] s rfl (by simpa using hl) (by simpa using nd) hs (by simpa using hd)
theorem w_enT {f : FB} {s : VS} {P : List PyData → VS → Prop} (q : f s fun x s1 => ∃ ds, x = .val (.tuple ds) ∧ P (enD ds) s1) : vEnT f s P := q
theorem w_enL {f : FB} {s : VS} {P : List PyData → VS → Prop} (q : f s fun x s1 => ∃ ds, x = .val (.list ds) ∧ P (enD ds) s1) : vEnL f s P := q
theorem w_trx {s : VS} {x : Bv} {d : PyData} {ds : List PyData} {R : List PyData → Prop} (h : rsv s x = some d) (h2 : seqOf d = some ds) (q : R ds) : ∃ d ds, rsv s x = some d ∧ seqOf d = some ds ∧ R ds := ⟨d, ds, h, h2, q⟩
theorem rg_nat (n : Nat) : rgD 0 n = (List.range n).map fun i : Nat => PyData.int i := by
  unfold rgD
  exact List.map_congr_left fun i _ => by rw [Int.zero_add]
theorem rg_nat2 (n : Nat) : rgD 0 (n : Int).toNat = (List.range n).map fun i : Nat => PyData.int i := by rw [Int.toNat_natCast, rg_nat]
theorem rg_from (a b : Nat) : rgD (a : Int) ((b : Int) - (a : Int)).toNat = (List.range (b - a)).map fun i : Nat => PyData.int (a + i : Nat) := by
  unfold rgD
  rw [show ((b : Int) - (a : Int)).toNat = b - a by omega]
  exact List.map_congr_left fun i _ => by rw [Int.natCast_add]
/-- enumerate -/
theorem en_map {β : Type} (enc : β → PyData) (xs : List β) : enD (xs.map enc) = xs.zipIdx.map fun p => .tuple [.int (p.2 : Nat), enc p.1] := by
  unfold enD
  rw [rg_nat, List.length_map]
  exact List.ext_getElem (by simp) fun i h1 h2 => by simp
end EV
namespace EV
open PySem PySem.Spec PyProof.Rows L2 D0
section
variable {K : PySem.W.Frag}
theorem repT_none {N : Addr → Prop} {H : Hp} : ∀ {kvs : List (List Key × V)} {es : List (PyData × PyData)}, RepT K N H kvs es → ∃ e ∈ es, e.1 = .none
  | _, _, .nil => ⟨_, List.mem_cons_self, rfl⟩
  | _, _, .cons _ t => by
    obtain ⟨e, h1, h2⟩ := repT_none t
    exact ⟨e, List.mem_cons_of_mem _ h1, h2⟩
def vDPut (f : FE) (i : Nat) (g : FB) : FS := fun s E => f s fun r s1 => (∃ es, s1[i]? = some (.ow (.dict es))) ∧ g s1 fun y s2 => ∃ es k, s2[i]? = some (.ow (.dict es)) ∧ rsv s2 y = some (keyD k) ∧ (∀ e ∈ es, e.1 ≠ .none) ∧ (∀ e ∈ es, e.1 ≠ keyD k) ∧ es.length < sizeLine ∧ E.nx (s2.set i (.ow (.dict (es ++ [(keyD k, r.1)]))))
theorem ls_dput {tv tk : TE} {f : FE} {g : FB} {i : Nat} (h : LE K tv f) (h2 : LB K tk g) : LS K (sDPut (tVar i) tk tv) (vDPut f i g) := ⟨fun C A σ H s E D r p hn hr hb hc => by
  refine h.run C A σ H s _ _ r p fun H1 v x s1 ⟨⟨es0, e0⟩, p1⟩ o => ?_
  obtain ⟨r1, rp1⟩ := o.er.fz
  obtain ⟨g1, _⟩ := r1.ow i _ e0
  refine ⟨_, g1, h2.run C A σ H1 s1 _ _ r1 p1 fun H2 w bv s2 ⟨es, k, e2, ek, hnn, hnk, hl, px⟩ r2 fr2 dm2 br => ?_⟩
  have rv := rep_keep fr2 dm2 rp1
  obtain ⟨_, ow2, _⟩ := r2.ow i _ e2
  have lk := br.loose r2 ek
  have ew : w = kV k := by
    cases k with
    | inl j => exact rep_key (N := M C A s2) (H := H2) lk
    | inr z => exact rep_key (N := M C A s2) (H := H2) lk
  subst ew
  obtain ⟨b, eb, hd⟩ := ow2.2
  cases eb
  rcases hd with ⟨kvs, hy, ry⟩ | ⟨kvs, hy, ry⟩
  · have put : putK kvs k v = kvs ++ [(k, v)] := by
      unfold putK
      rw [repK_any ry hnk, if_neg Bool.false_ne_true]
    refine ⟨A.ad i, upd H2 (A.ad i) (.dK (putK kvs k v)), rfl, DPut.k hy (by rw [repK_len ry]; exact hl), ?_⟩
    rw [put]
    have ow : Own K (M C A s2) (upd H2 (A.ad i) (.dK (kvs ++ [(k, v)]))) (.dict (es ++ [(keyD k, x.1)])) (A.ad i) := by
      refine ⟨rfl, _, rfl, .inl ⟨_, upd_same, RepK.go (fun _ _ e => sqt_of (fun b u q m => ?_) e) (fun b u q m => ⟨?_, m⟩) _ _ (repK_snoc (k := k) ry rv)⟩⟩
      · by_cases z : b = A.ad i
        · rw [z, hy] at q; cases q; exact absurd trivial m
        · rw [upd_ne z]; exact q
      · rw [upd_ne fun z => m (.inr (.inr ⟨i, _, e2, z.symm⟩))]; exact q
    obtain ⟨r3, f3, d3, meq, rep⟩ := r2.putO e2 ow
    exact hn A σ _ _ px r3 (.of_fr (((o.fr.trans o.dm fr2).trans (o.dm.trans dm2) f3)) ((o.dm.trans dm2).trans d3))
  · obtain ⟨e, he, z⟩ := repT_none ry
    exact absurd z (hnn e he)⟩
def mIns (ds ws : List PyData) (k : List PyData → PyData → Prop) : Prop := ∃ i d, ws = [.int i, d] ∧ ds.length < sizeLine ∧ 0 ≤ i ∧ i < 2 ^ 63 ∧ k (ds.take i.toNat ++ [d] ++ ds.drop i.toNat) .none
theorem ml_insert : MutL K rIns mIns := fun N H a vs ds ws es k Q e r rw' hf q => by
  obtain ⟨i, d, rfl, h1, h2, h3, hk⟩ := hf
  cases rw' with
  | cons h t =>
    cases t with
    | cons g t =>
      cases t
      cases h
      exact ⟨a, vs, i, _, rfl, rfl, e, by rw [r.len]; exact h1, h2, h3, q _ _ _ _ hk (((r.take _).app (.cons g .nil)).app (r.drop _)) .non⟩
end
section
variable {s : VS} {E : VEnds} {k : KO}
theorem w_dput {f : FE} {g : FB} {i : Nat} (q : f s fun r s1 => (∃ es, s1[i]? = some (.ow (.dict es))) ∧ g s1 fun y s2 => ∃ es k, s2[i]? = some (.ow (.dict es)) ∧ rsv s2 y = some (keyD k) ∧ (∀ e ∈ es, e.1 ≠ .none) ∧ (∀ e ∈ es, e.1 ≠ keyD k) ∧ es.length < sizeLine ∧ E.nx (s2.set i (.ow (.dict (es ++ [(keyD k, r.1)]))))) : vDPut f i g s E := q
theorem w_dputA {i : Nat} {es : List (PyData × PyData)} {R : Prop} (h : s[i]? = some (.ow (.dict es))) (q : R) : (∃ es, s[i]? = some (.ow (.dict es))) ∧ R := ⟨⟨es, h⟩, q⟩
theorem m_ins {ds : List PyData} {i : Int} {d : PyData} {R : List PyData → PyData → Prop} (h : ds.length < sizeLine) (h0 : 0 ≤ i) (h1 : i < 2 ^ 63) (q : R (ds.take i.toNat ++ [d] ++ ds.drop i.toNat) .none) : mIns ds [.int i, d] R := ⟨i, d, rfl, h, h0, h1, q⟩
theorem eqv_bools : ∀ xs ys : List Bool, PyData.eqvAll (xs.map .bool) (ys.map .bool) = decide (xs = ys)
  | [], [] => rfl
  | [], _ :: _ => rfl
  | _ :: _, [] => rfl
  | x :: xs, y :: ys => by
    show (PyData.eqv (.bool x) (.bool y) && PyData.eqvAll (xs.map .bool) (ys.map .bool)) = _
    rw [eqv_bools xs ys, show PyData.eqv (.bool x) (.bool y) = decide (x = y) from by show (x == y) = _; cases x <;> cases y <;> rfl]
    by_cases h : x = y <;> simp [h]
theorem eqv_intsA : ∀ xs ys : List Int, PyData.eqvAll (xs.map .int) (ys.map .int) = decide (xs = ys)
  | [], [] => rfl
  | [], _ :: _ => rfl
  | _ :: _, [] => rfl
  | x :: xs, y :: ys => by
    show (PyData.eqv (.int x) (.int y) && PyData.eqvAll (xs.map .int) (ys.map .int)) = _
    rw [eqv_intsA xs ys, show PyData.eqv (.int x) (.int y) = decide (x = y) from by (show (x == y) = _); by_cases h : x = y <;> simp [h]]
    by_cases h : x = y <;> simp [h]
theorem shaped_of {f : PyData} {ds : List PyData} (h : ∀ d ∈ ds, d.canLay0 = true ∧ d.depth = 0) (e : f = .list ds ∨ f = .tuple ds) : SeqAt.shaped f = true := by
  have key : PyData.canLayAll0 ds = true ∧ PyData.depthAll ds = 0 := by
    clear e
    induction ds with
    | nil => exact ⟨rfl, rfl⟩
    | cons d ds ih =>
      obtain ⟨a, b⟩ := ih fun x hx => h x (List.mem_cons_of_mem _ hx)
      obtain ⟨c, d'⟩ := h d List.mem_cons_self
      refine ⟨?_, ?_⟩
      · show (PyData.canLay0 d && PyData.canLayAll0 ds) = true
        rw [a, c]; rfl
      · show max (PyData.depth d) (PyData.depthAll ds) = 0
        rw [b, d']; rfl
  unfold SeqAt.shaped
  rw [Bool.and_eq_true]
  rcases e with rfl | rfl
  · exact ⟨key.1, decide_eq_true (by show PyData.depthAll ds + 1 ≤ 64; omega)⟩
  · exact ⟨key.1, decide_eq_true (by show PyData.depthAll ds + 1 ≤ 64; omega)⟩
theorem flat_bools (xs : List Bool) : ∀ d ∈ xs.map PyData.bool, d.canLay0 = true ∧ d.depth = 0 := fun d h => by
  obtain ⟨x, _, rfl⟩ := List.mem_map.mp h
  exact ⟨rfl, rfl⟩
theorem flat_intsD (xs : List Int) : ∀ d ∈ xs.map PyData.int, d.canLay0 = true ∧ d.depth = 0 := fun d h => by
  obtain ⟨x, _, rfl⟩ := List.mem_map.mp h
  exact ⟨rfl, rfl⟩
theorem o_neBs {xs ys : List Bool} (q : k (.bool (!decide (xs = ys)), false)) : fNe (.list (xs.map .bool)) (.list (ys.map .bool)) k := by
  refine o_ne ?_ ?_
  · unfold eqOk
    rw [shaped_of (flat_bools xs) (.inl rfl), shaped_of (flat_bools ys) (.inl rfl)]
    exact Bool.or_true _
  · rw [show PyData.eqv (.list (xs.map .bool)) (.list (ys.map .bool)) = decide (xs = ys) from eqv_bools xs ys]; exact q
theorem o_eqTs {xs ys : List Int} (q : k (.bool (decide (xs = ys)), false)) : fEq (.tuple (xs.map .int)) (.tuple (ys.map .int)) k := by
  refine o_eq ?_ ?_
  · unfold eqOk
    rw [shaped_of (flat_intsD xs) (.inr rfl), shaped_of (flat_intsD ys) (.inr rfl)]
    exact Bool.or_true _
  · rw [show PyData.eqv (.tuple (xs.map .int)) (.tuple (ys.map .int)) = decide (xs = ys) from eqv_intsA xs ys]; exact q
end
end EV
namespace EV
open PySem PySem.Spec PyProof.Rows L2 D0
def parV (i j : Nat) (nx : VS → Prop) : List PyData → VS → Prop
  | [d, e], s => nx ((s.set i (.fz d)).set j (.fz e))
  | _, _ => False
def vPar (fa : FA) (i j : Nat) : FS := fun s E => fa s fun xs s1 => ∃ ds, valsA xs = some ds ∧ parV i j E.nx ds s1
section
variable {K : PySem.W.Frag}
theorem ls_par {ta : TA} {fa : FA} {i j : Nat} (h : LA K ta fa) : LS K (tPar i j ta) (vPar fa i j) := ⟨fun C A σ H s E D r p hn hr hb hc => by
  refine h.run C A σ H s _ _ r p fun H1 vs bvs s1 ⟨ds, ev, px⟩ R1 fr dm brs => ?_
  have ra := repA_vals brs ev
  unfold parV at px
  split at px
  · rename_i d e
    cases ra with
    | cons ra rb =>
      cases rb with
      | cons rb rn =>
        cases rn
        have d1 : Dem s1 (s1.set i (.fz d)) := dem_set fun _ z => nomatch z
        have d2 : Dem (s1.set i (.fz d)) ((s1.set i (.fz d)).set j (.fz e)) := dem_set fun _ z => nomatch z
        exact ⟨_, _, rfl, hn A _ H1 _ px ((R1.setFz ra).setFz (rep_sub (fun a z => d1.m z) rb)) (.of_fr fr (dm.trans (d1.trans d2)))⟩
  · exact px.elim⟩
end
section
variable {s : VS} {E : VEnds} {nx : VS → Prop}
theorem w_par {fa : FA} {i j : Nat} (q : fa s fun xs s1 => ∃ ds, valsA xs = some ds ∧ parV i j E.nx ds s1) : vPar fa i j s E := q
theorem w_parV {i j : Nat} {d e : PyData} (q : nx ((s.set i (.fz d)).set j (.fz e))) : parV i j nx [d, e] s := q
end
end EV
namespace EV
open PySem PySem.Spec PyProof.Rows L2 D0
def lc2V (g : FG) (ft : FT) (fi1 : FI) (g1 : FG) (ft1 : FT) (fe : FE) (vs vs1 : List Nat) (P : List PyData → VS → Prop) : List PyData → List PyData → VS → Prop
  | [], acc, s => P acc s
  | d :: ds, acc, s => g d (wipeV s vs) fun s1 => ft s1 fun b s2 => if b = true then fi1 s2 fun ds1 s3 => lcV g1 ft1 fe vs1 (fun acc' s4 => lc2V g ft fi1 g1 ft1 fe vs vs1 P ds acc' s4) ds1 acc s3 else lc2V g ft fi1 g1 ft1 fe vs vs1 P ds acc s2
def vLc2 (fi : FI) (g : FG) (ft : FT) (fi1 : FI) (g1 : FG) (ft1 : FT) (fe : FE) (vs vs1 : List Nat) : FE := fun s P => fi s fun ds s1 => lc2V g ft fi1 g1 ft1 fe vs vs1 (fun ys s' => P (.list ys, true) (backV s1 s' vs)) ds [] s1
/-- all as it stood, but D, the bag and what is owned -/
def FrD (A : Dy) (s : VS) (D : Addr) (H H' : Hp) : Prop := (∀ a o, a ≠ D → H a = some o → (∀ c, A.bc ≠ some (a, c)) → ¬ isO A s a → H' a = some o) ∧ ∀ a o, H a = some o → ¬ Mut (some o) → H' a = some o
section
variable {K : PySem.W.Frag} {C : VC} {A : Dy} {σ σ2 : L2.St} {H H1 H2 H3 H4 H5 : Hp} {s s0 s1 s2 s3 s4 : VS} {D : Addr}
theorem FrD.refl : FrD A s D H H := ⟨fun _ _ _ e _ _ => e, fun _ _ e _ => e⟩
theorem FrD.fr (x : FrD A s D H H1) (m : Dem s s1) (y : Fr A s1 H1 H2) : FrD A s D H H2 :=
  ⟨fun a o ne e n1 n2 => y.1 a o (x.1 a o ne e n1 n2) n1 fun z => n2 (m.o z), fun a o e n => y.2 a o (x.2 a o e n) n⟩
theorem FrD.put {xs : List V} {o : HO} (x : FrD A s D H H1) (e : H1 D = some (.lst xs)) : FrD A s D H (upd H1 D o) :=
  ⟨fun a u ne e1 n1 n2 => (upd_ne ne).trans (x.1 a u ne e1 n1 n2), fun a u e1 n => by
    have z : a ≠ D := fun z => by
      subst z
      have := x.2 _ _ e1 n
      rw [e] at this; cases this
      exact n trivial
    exact (upd_ne z).trans (x.2 a u e1 n)⟩
theorem FrD.over (y : Fr A s H H1) (n : H D = none) (m : Dem s s1) (x : FrD A s1 D H1 H2) : Fr A s H H2 :=
  ⟨fun a o e n1 n2 => x.1 a o (ne_of_none e n) (y.1 a o e n1 n2) n1 fun z => n2 (m.o z), fun a o e k => x.2 a o (y.2 a o e k) k⟩
theorem wipeV_sub {vs vs1 : List Nat} (hs : ∀ i ∈ vs1, i ∈ vs) : wipeV (wipeV s vs1) vs = wipeV s vs := by
  refine List.ext_getElem? fun i => ?_
  by_cases hi : i ∈ vs
  · cases e : (wipeV (wipeV s vs1) vs)[i]? with
    | none =>
      rw [List.getElem?_eq_none_iff, wipeV_len, wipeV_len] at e
      exact (List.getElem?_eq_none_iff.mpr (by rw [wipeV_len]; exact e)).symm
    | some x =>
      have hx := wipeV_mem hi e
      have hl := (List.getElem?_eq_some_iff.mp e).1
      rw [wipeV_len, wipeV_len] at hl
      have e2 : (wipeV s vs)[i]? = some ((wipeV s vs)[i]'(by rw [wipeV_len]; exact hl)) := List.getElem?_eq_getElem _
      rw [e2, wipeV_mem hi e2, hx]
  · rw [wipeV_ne hi, wipeV_ne hi, wipeV_ne fun z => hi (hs i z)]
theorem wipe_sub {vs vs1 : List Nat} (hs : ∀ i ∈ vs1, i ∈ vs) : L2.wipe (L2.wipe σ vs1) vs = L2.wipe σ vs := by
  refine List.ext_getElem? fun j => ?_
  by_cases hj : j ∈ vs
  · by_cases hl : j < σ.length
    · have l1 : j < (L2.wipe (L2.wipe σ vs1) vs).length := by rw [wipe_length, wipe_length]; exact hl
      have l2 : j < (L2.wipe σ vs).length := by rw [wipe_length]; exact hl
      rw [List.getElem?_eq_getElem l1, List.getElem?_eq_getElem l2]
      rw [wipe_mem hj (List.getElem?_eq_getElem l1), wipe_mem hj (List.getElem?_eq_getElem l2)]
    · rw [List.getElem?_eq_none (by rw [wipe_length, wipe_length]; omega), List.getElem?_eq_none (by rw [wipe_length]; omega)]
  · rw [wipe_ne hj, wipe_ne hj, wipe_ne fun z => hj (hs j z)]
/-- the inner loop -/
theorem li_of {tg1 : TG} {tt1 : TT} {te : TE} {g1 : FG} {ft1 : FT} {fe : FE} {vs1 : List Nat} {J1 : It} {ds1 : List PyData} {acc0 : List PyData} {ws0 : List V} {Pd : List PyData → VS → Prop} {Nx : Hp → Prop}
    (hg : LG K tg1 g1) (hw : GIn tg1 vs1) (ht : LT K tt1 ft1) (he : LE K te fe) (r3 : R K (C.add D) A σ2 H4 s3) (it : ItR K (M (C.add D) A s3) H4 J1 ds1) (eD0 : H4 D = some (.lst ws0)) (ra0 : RepA K (M (C.add D) A s3) H4 ws0 acc0) (h0D : C.H0 D = none) (nD : ¬ C.N D)
    (p : lcV g1 ft1 fe vs1 Pd ds1 acc0 s3)
    (hend : ∀ H' s4 acc ws, H' D = some (.lst ws) → RepA K (M (C.add D) A (wipeV s4 vs1)) H' ws acc → R K (C.add D) A (L2.wipe σ2 vs1) H' (wipeV s4 vs1) → FrD A s3 D H4 H' → Dem s3 (wipeV s4 vs1) → Pd acc s4 → Nx H') : D0.LI J1 tg1 tt1 te vs1 σ2 D Nx H4 := by
  have nMD : ¬ M C A s3 D := r3.off nD
  refine ⟨fun j k H => k = ds1.length - j ∧ j ≤ ds1.length ∧ ∃ s4 acc ws, H D = some (.lst ws) ∧ RepA K (M (C.add D) A (wipeV s4 vs1)) H ws acc ∧ R K (C.add D) A (L2.wipe σ2 vs1) H (wipeV s4 vs1) ∧ FrD A s3 D H4 H ∧ Dem s3 (wipeV s4 vs1) ∧ lcV g1 ft1 fe vs1 Pd (ds1.drop j) acc s4,
    ⟨_, rfl, Nat.zero_le _, s3, acc0, ws0, eD0, repA_sub (fun x z => wipeV_dem.m z) ra0, r3.wipe, .refl, wipeV_dem, by simpa using p⟩, ?_⟩
  rintro j k H ⟨rfl, hj, s4, acc, ws, eD, ra, r', f', dm', pl⟩
  have hN : ∀ a o, H4 a = some o → ¬ M (C.add D) A s3 a → H a = some o ∧ ¬ M (C.add D) A (wipeV s4 vs1) a := fun a o e n => ⟨f'.1 a o (fun z => n (.inl (.inr z))) e (fun c q => n (.inr (.inl (isB.of q)))) (fun z => n (.inr (.inr z))), fun z => n (dm'.m z)⟩
  obtain ⟨st, go⟩ := it _ H hN f'.2
  by_cases hlt : j < ds1.length
  · have e := List.getElem?_eq_getElem hlt
    obtain ⟨g0, y1⟩ := go j _ e
    rw [List.drop_eq_getElem_cons hlt] at pl
    refine .inr ⟨g0, fun H2 => ∃ s4 acc ws, H2 D = some (.lst ws) ∧ RepA K (M (C.add D) A (wipeV s4 vs1)) H2 ws acc ∧ R K (C.add D) A (L2.wipe σ2 vs1) H2 (wipeV s4 vs1) ∧ FrD A s3 D H4 H2 ∧ Dem s3 (wipeV s4 vs1) ∧ lcV g1 ft1 fe vs1 Pd (ds1.drop (j + 1)) acc s4, ?_, ?_⟩
    · rintro H2 h
      exact ⟨_, by omega, rfl, hlt, h⟩
    · intro x H'' y
      obtain ⟨sm, rp⟩ := y1 x H'' y
      have eD2 := sm _ _ eD
      refine hw.mono _ _ _ _ _ (hw.run x _ σ2 H'' (fun σ3 H2 => ∃ s2, (ft1 s2 fun b s2 => if b = true then fe s2 fun r s3 => acc.length < sizeLine ∧ lcV g1 ft1 fe vs1 Pd (ds1.drop (j + 1)) (acc ++ [r.1]) s3 else lcV g1 ft1 fe vs1 Pd (ds1.drop (j + 1)) acc s2) ∧ R K (C.add D) A σ3 H2 s2 ∧ Dem (wipeV s4 vs1) s2 ∧ H2 = H'') wipe_wipe
        (hg.run (C.add D) A (L2.wipe σ2 vs1) H'' (wipeV s4 vs1) x _ _ _ (r'.same sm) rp pl fun σ3 s2 p2 r2 dm2 => ⟨s2, p2, r2, dm2, rfl⟩)) ?_
      rintro σ3 H2 ⟨ew, s2, p2, r2, dm2, rfl⟩
      refine ⟨ew, ht.run (C.add D) A σ3 H2 s2 _ _ r2 p2 fun H3 b s5 p3 r5 fr3 dm3 => ?_⟩
      have F3 : FrD A s3 D H4 H3 := (f'.fr dm' (.of_same sm)).fr (dm'.trans dm2) fr3
      have D3 := (dm'.trans dm2).trans dm3
      have eD3 : H3 D = some (.lst ws) := fr3.go (C := C) D _ eD2 (r2.off nD)
      have ra3 : RepA K (M (C.add D) A s5) H3 ws acc := repA_keep fr3 dm3 (repA_keep (C := C.add D) (.of_same (A := A) (s := wipeV s4 vs1) sm) dm2 ra)
      cases b with
      | false =>
        rw [if_neg Bool.false_ne_true] at p3
        refine iteF ⟨s5, acc, ws, eD3, repA_sub (fun x z => wipeV_dem.m z) ra3, ?_, F3, D3.trans wipeV_dem, p3⟩
        rw [← ew]; exact r5.wipe
      | true =>
        rw [if_pos rfl] at p3
        refine iteT (he.run (C.add D) A σ3 H3 s5 _ _ r5 p3 fun H6 y r s6 ⟨hl, p4⟩ o => ?_)
        obtain ⟨r4, rp4⟩ := o.er.fz
        have eD4 : H6 D = some (.lst ws) := o.fr.go (C := C) D _ eD3 (r5.off nD)
        refine ⟨ws, eD4, by rw [ra3.len]; exact hl, s6, _, _, upd_same, ?_, ?_, (F3.fr D3 o.fr).put eD4, (D3.trans o.dm).trans wipeV_dem, p4⟩
        · have ra4 : RepA K (M (C.add D) A s6) H6 (ws ++ [y]) (acc ++ [r.1]) := (repA_keep o.fr o.dm ra3).app (.cons rp4 .nil)
          refine RepA.go (fun _ _ e => sqt_of (fun b u q m => ?_) e) (fun b u q m => ⟨?_, fun z => m (wipeV_dem.m z)⟩) _ _ ra4
          · by_cases z : b = D
            · rw [z, eD4] at q; cases q; exact absurd trivial m
            · rw [upd_ne z]; exact q
          · rw [upd_ne fun z => m (.inl (.inr z))]; exact q
        · rw [← ew]
          exact (r4.putN (.inr rfl) h0D eD4).wipe
  · have : j = ds1.length := by omega
    subst this
    rw [List.drop_length] at pl
    exact .inl ⟨st, hend H s4 acc ws eD ra r' f' dm' pl⟩
theorem le_lc2 {wi wi1 : TI} {tg tg1 : TG} {tt tt1 : TT} {te : TE} {fi fi1 : FI} {g g1 : FG} {ft ft1 : FT} {fe : FE} {vs vs1 : List Nat} (hs : ∀ i ∈ vs1, i ∈ vs) (hi : EV.LI K wi fi) (hg : LG K tg g) (hw : GIn tg vs) (ht : LT K tt ft) (hi1 : EV.LI K wi1 fi1) (hg1 : LG K tg1 g1) (hw1 : GIn tg1 vs1) (ht1 : LT K tt1 ft1) (he : LE K te fe) :
    LE K (tLc2 wi tg tt wi1 tg1 tt1 te vs vs1) (vLc2 fi g ft fi1 g1 ft1 fe vs vs1) := ⟨fun C A σ H s P Q R0 p q => rd_lc2 (by
  refine hi.run C A σ H s _ _ R0 p fun H1 J ds s1 p1 r1 fr dm it => ?_
  intro D hD
  have nD : ¬ C.N D := fun z => r1.nn D z hD
  have h0D := r1.new0 hD
  refine ⟨fun i m H' => m = ds.length - i ∧ i ≤ ds.length ∧ ∃ s' acc ws, H' D = some (.lst ws) ∧ RepA K (M (C.add D) A (wipeV s' vs)) H' ws acc ∧ R K (C.add D) A (L2.wipe σ vs) H' (wipeV s' vs) ∧ Fr A s1 H1 H' ∧ Dem s1 (wipeV s' vs) ∧
    lc2V g ft fi1 g1 ft1 fe vs vs1 (fun ys s' => P (.list ys, true) (backV s1 s' vs)) (ds.drop i) acc s', ⟨_, rfl, Nat.zero_le _, s1, [], [], upd_same, .nil, (r1.add (same_upd hD) hD (by rw [upd_same]; exact fun z => nomatch z)).wipe, Fr.mut .refl hD, wipeV_dem, by simpa using p1⟩, ?_⟩
  rintro i m H' ⟨rfl, hi, s', acc, ws, eD, ra, r', f', dm', pl⟩
  have hN : ∀ a o, H1 a = some o → ¬ M C A s1 a → H' a = some o ∧ ¬ M (C.add D) A (wipeV s' vs) a := fun a o e n => ⟨f'.go a o e n, fun z => by
    rw [M_add] at z
    rcases z with z | z
    · exact n (dm'.m z)
    · rw [z, hD] at e; cases e⟩
  obtain ⟨st, go⟩ := it _ H' hN f'.2
  by_cases hlt : i < ds.length
  · have e := List.getElem?_eq_getElem hlt
    obtain ⟨g0, y1⟩ := go i _ e
    rw [List.drop_eq_getElem_cons hlt] at pl
    refine .inr ⟨g0, fun H2 => ∃ s' acc ws, H2 D = some (.lst ws) ∧ RepA K (M (C.add D) A (wipeV s' vs)) H2 ws acc ∧ R K (C.add D) A (L2.wipe σ vs) H2 (wipeV s' vs) ∧ Fr A s1 H1 H2 ∧ Dem s1 (wipeV s' vs) ∧
      lc2V g ft fi1 g1 ft1 fe vs vs1 (fun ys s' => P (.list ys, true) (backV s1 s' vs)) (ds.drop (i + 1)) acc s', ?_, ?_⟩
    · rintro H2 h
      exact ⟨_, by omega, rfl, hlt, h⟩
    · intro x H'' y
      obtain ⟨sm, rp⟩ := y1 x H'' y
      have eD2 := sm _ _ eD
      refine hw.mono _ _ _ _ _ (hw.run x _ σ H'' (fun σ2 H2 => ∃ s2, (ft s2 fun b s2 => if b = true then fi1 s2 fun ds1 s3 => lcV g1 ft1 fe vs1 (fun acc' s4 => lc2V g ft fi1 g1 ft1 fe vs vs1 (fun ys s' => P (.list ys, true) (backV s1 s' vs)) (ds.drop (i + 1)) acc' s4) ds1 acc s3 else lc2V g ft fi1 g1 ft1 fe vs vs1 (fun ys s' => P (.list ys, true) (backV s1 s' vs)) (ds.drop (i + 1)) acc s2) ∧ R K (C.add D) A σ2 H2 s2 ∧ Dem (wipeV s' vs) s2 ∧ H2 = H'') wipe_wipe
        (hg.run (C.add D) A (L2.wipe σ vs) H'' (wipeV s' vs) x _ _ _ (r'.same sm) rp pl fun σ2 s2 p2 r2 dm2 => ⟨s2, p2, r2, dm2, rfl⟩)) ?_
      rintro σ2 H2 ⟨ew, s2, p2, r2, dm2, rfl⟩
      refine ⟨ew, ht.run (C.add D) A σ2 H2 s2 _ _ r2 p2 fun H3 b s3 p3 r3 fr3 dm3 => ?_⟩
      have F3 : Fr A s1 H1 H3 := (f'.trans dm' (.of_same sm)).trans (dm'.trans dm2) fr3
      have D3 := (dm'.trans dm2).trans dm3
      have eD3 : H3 D = some (.lst ws) := fr3.go (C := C) D _ eD2 (r2.off nD)
      have ra3 : RepA K (M (C.add D) A s3) H3 ws acc := repA_keep fr3 dm3 (repA_keep (C := C.add D) (.of_same (A := A) (s := wipeV s' vs) sm) dm2 ra)
      cases b with
      | false =>
        rw [if_neg Bool.false_ne_true] at p3
        refine iteF ⟨s3, acc, ws, eD3, repA_sub (fun x z => wipeV_dem.m z) ra3, ?_, F3, D3.trans wipeV_dem, p3⟩
        rw [← ew]; exact r3.wipe
      | true =>
        rw [if_pos rfl] at p3
        refine iteT (hi1.run (C.add D) A σ2 H3 s3 _ _ r3 p3 fun H4 J1 ds1 s4 p4 r4 fr4 dm4 it4 => ?_)
        have eD4 : H4 D = some (.lst ws) := fr4.go (C := C) D _ eD3 (r3.off nD)
        refine li_of hg1 hw1 ht1 he r4 it4 eD4 (repA_keep fr4 dm4 ra3) h0D nD p4 fun H5 s5 acc5 ws5 eD5 ra5 r5 f5 d5 p5 => ?_
        have dd : Dem s1 (wipeV s5 vs) := by
          have := ((D3.trans dm4).trans d5).trans (wipeV_dem (vs := vs))
          rwa [wipeV_sub hs] at this
        have r6 := r5.wipe (vs := vs)
        rw [wipeV_sub hs, wipe_sub hs, ew] at r6
        have dw : Dem (wipeV s5 vs1) (wipeV s5 vs) := by
          have := wipeV_dem (s := wipeV s5 vs1) (vs := vs)
          rwa [wipeV_sub hs] at this
        exact ⟨s5, acc5, ws5, eD5, repA_sub (fun x z => dw.m z) ra5, r6, FrD.over (F3.trans D3 fr4) hD (D3.trans dm4) f5, dd, p5⟩
  · have : i = ds.length := by omega
    subst this
    rw [List.drop_length] at pl
    refine .inl ⟨st, q H' _ _ _ pl (.after fr dm ?_)⟩
    obtain ⟨b1, b2, b3⟩ := R.back (s0 := s1) r' (fun i d e => by
      obtain ⟨v, q1, q2⟩ := r1.fz i d e
      exact ⟨v, q1, Rep.go (fun _ _ e => sqt_of f'.2 e) hN _ _ q2⟩) dm'
    exact ⟨f', b2, ⟨D, rfl, h0D, nD, b1, rfl, _, _, rfl, eD, repA_sub b3 ra⟩, fun b _ e => by cases e; exact .inl hD⟩)⟩
end
/-- more behind what a list comprehension has already -/
theorem lc_mapA {β : Type} (xs : List β) (enc : β → PyData) (b : β → Bool) (f : β → PyData) {tg : FG} {ft : FT} {fe : FE} {vs : List Nat} {Pd : List PyData → VS → Prop} {s : VS} {ds : List PyData} (e : ds = xs.map enc) (acc0 : List PyData) (hl : acc0.length + xs.length ≤ 100000)
    (hs : ∀ x ∈ xs, ∀ (T : PyData → VS → Prop) (T0 : VS → Prop), (b x = true → ∀ s3, wipeV s3 vs = wipeV s vs → T (f x) s3) → (b x = false → ∀ s3, wipeV s3 vs = wipeV s vs → T0 s3) →
      tg (enc x) (wipeV s vs) fun s1 => ft s1 fun k s2 => if k = true then fe s2 fun r s3 => T r.1 s3 else T0 s2)
    (hd : ∀ s', wipeV s' vs = wipeV s vs → Pd (acc0 ++ (xs.filter b).map f) s') : lcV tg ft fe vs Pd ds acc0 s := by
  have key : ∀ (xs : List β) (acc : List PyData) (s' : VS), wipeV s' vs = wipeV s vs → acc.length + xs.length ≤ 100000 →
      (∀ x ∈ xs, ∀ (T : PyData → VS → Prop) (T0 : VS → Prop), (b x = true → ∀ s3, wipeV s3 vs = wipeV s vs → T (f x) s3) → (b x = false → ∀ s3, wipeV s3 vs = wipeV s vs → T0 s3) →
        tg (enc x) (wipeV s vs) fun s1 => ft s1 fun k s2 => if k = true then fe s2 fun r s3 => T r.1 s3 else T0 s2) →
      (∀ s', wipeV s' vs = wipeV s vs → Pd (acc ++ (xs.filter b).map f) s') → lcV tg ft fe vs Pd (xs.map enc) acc s' := by
    intro xs
    induction xs with
    | nil =>
      intro acc s' w _ _ hd
      have := hd s' w
      rw [List.filter_nil, List.map_nil, List.append_nil] at this
      exact this
    | cons x xs ih =>
      intro acc s' w hl hs hd
      show tg (enc x) (wipeV s' vs) fun s1 => ft s1 fun k s2 => if k = true then fe s2 fun r s3 => acc.length < sizeLine ∧ lcV tg ft fe vs _ (xs.map enc) (acc ++ [r.1]) s3 else lcV tg ft fe vs _ (xs.map enc) acc s2
      rw [w]
      rw [List.length_cons] at hl
      refine hs x List.mem_cons_self (fun y s3 => acc.length < sizeLine ∧ lcV tg ft fe vs _ (xs.map enc) (acc ++ [y]) s3) (fun s2 => lcV tg ft fe vs _ (xs.map enc) acc s2) (fun hb s3 w3 => ⟨sz4' (by omega), ?_⟩) fun hb s3 w3 => ?_
      · refine ih (acc ++ [f x]) s3 w3 (by rw [List.length_append]; simp; omega) (fun x hx => hs x (List.mem_cons_of_mem _ hx)) ?_
        rw [List.filter_cons, if_pos hb, List.map_cons] at hd
        rw [List.append_assoc]
        exact hd
      · refine ih acc s3 w3 (by omega) (fun x hx => hs x (List.mem_cons_of_mem _ hx)) ?_
        rw [List.filter_cons, if_neg (by rw [hb]; exact Bool.false_ne_true)] at hd
        exact hd
  subst e
  exact key xs acc0 s rfl hl hs hd
theorem wipe_up {vs vs1 : List Nat} {s s' : VS} (hs : ∀ i ∈ vs1, i ∈ vs) (w : wipeV s' vs1 = wipeV s vs1) : wipeV s' vs = wipeV s vs := by
  rw [← wipeV_sub (s := s') hs, ← wipeV_sub (s := s) hs, w]
/-- two clauses: by what each turn of the first gives -/
theorem lc2_flat {β : Type} (xs : List β) (enc : β → PyData) (F : β → List PyData) {g : FG} {ft : FT} {fi1 : FI} {g1 : FG} {ft1 : FT} {fe : FE} {vs vs1 : List Nat} {Pd : List PyData → VS → Prop} {s : VS} {ds : List PyData} (e : ds = xs.map enc) (hl : (xs.flatMap F).length ≤ 100000)
    (hs : ∀ x ∈ xs, ∀ (acc : List PyData) (T : List PyData → VS → Prop), acc.length + (F x).length ≤ 100000 → (∀ s3, wipeV s3 vs = wipeV s vs → T (acc ++ F x) s3) →
      g (enc x) (wipeV s vs) fun s1 => ft s1 fun b s2 => if b = true then fi1 s2 fun ds1 s3 => lcV g1 ft1 fe vs1 T ds1 acc s3 else T acc s2)
    (hd : ∀ s', wipeV s' vs = wipeV s vs → Pd (xs.flatMap F) s') : lc2V g ft fi1 g1 ft1 fe vs vs1 Pd ds [] s := by
  have key : ∀ (xs : List β) (acc : List PyData) (s' : VS), wipeV s' vs = wipeV s vs → acc.length + (xs.flatMap F).length ≤ 100000 →
      (∀ x ∈ xs, ∀ (acc : List PyData) (T : List PyData → VS → Prop), acc.length + (F x).length ≤ 100000 → (∀ s3, wipeV s3 vs = wipeV s vs → T (acc ++ F x) s3) →
        g (enc x) (wipeV s vs) fun s1 => ft s1 fun b s2 => if b = true then fi1 s2 fun ds1 s3 => lcV g1 ft1 fe vs1 T ds1 acc s3 else T acc s2) →
      (∀ s', wipeV s' vs = wipeV s vs → Pd (acc ++ xs.flatMap F) s') → lc2V g ft fi1 g1 ft1 fe vs vs1 Pd (xs.map enc) acc s' := by
    intro xs
    induction xs with
    | nil =>
      intro acc s' w _ _ hd
      have := hd s' w
      rw [List.flatMap_nil, List.append_nil] at this
      exact this
    | cons x xs ih =>
      intro acc s' w hl hs hd
      show g (enc x) (wipeV s' vs) fun s1 => ft s1 fun b s2 => if b = true then fi1 s2 fun ds1 s3 => lcV g1 ft1 fe vs1 (fun acc' s4 => lc2V g ft fi1 g1 ft1 fe vs vs1 Pd (xs.map enc) acc' s4) ds1 acc s3 else lc2V g ft fi1 g1 ft1 fe vs vs1 Pd (xs.map enc) acc s2
      rw [w]
      rw [List.flatMap_cons, List.length_append] at hl
      refine hs x List.mem_cons_self acc _ (by omega) fun s3 w3 => ?_
      refine ih (acc ++ F x) s3 w3 (by rw [List.length_append]; omega) (fun x hx => hs x (List.mem_cons_of_mem _ hx)) fun s4 w4 => ?_
      have := hd s4 w4
      rw [List.flatMap_cons, ← List.append_assoc] at this
      exact this
  subst e
  exact key xs [] s rfl (by simpa using hl) hs hd
theorem w_lc2 {fi fi1 : FI} {g g1 : FG} {ft ft1 : FT} {fe : FE} {vs vs1 : List Nat} {s : VS} {P : PyData × Bool → VS → Prop} (q : fi s fun ds s1 => lc2V g ft fi1 g1 ft1 fe vs vs1 (fun ys s' => P (.list ys, true) (backV s1 s' vs)) ds [] s1) : vLc2 fi g ft fi1 g1 ft1 fe vs vs1 s P := q
end EV
namespace EV
open PySem PySem.Spec PyProof.Rows L2 D0
def vNever : FS := fun _ _ => False
theorem ls_never {K : PySem.W.Frag} : LS K tNever vNever := ⟨fun _ _ _ _ _ _ _ _ p _ _ _ _ => p.elim⟩
theorem o_eqBB {x y : Bool} {k : KO} (q : k (.bool (decide (x = y)), false)) : fEq (.bool x) (.bool y) k := by
  refine o_eq (by cases x <;> cases y <;> rfl) ?_
  rw [show PyData.eqv (.bool x) (.bool y) = decide (x = y) from by cases x <;> cases y <;> rfl]
  exact q
theorem o_neBB {x y : Bool} {k : KO} (q : k (.bool (!decide (x = y)), false)) : fNe (.bool x) (.bool y) k := by
  refine o_ne (by cases x <;> cases y <;> rfl) ?_
  rw [show PyData.eqv (.bool x) (.bool y) = decide (x = y) from by cases x <;> cases y <;> rfl]
  exact q
/-- what _law_same goes through: lists and tuples of numbers, truths, texts and None, less than n deep -/
def SameD : Nat → PyData → Prop
  | 0, _ => False
  | n + 1, d => (d = .none ∨ (∃ b, d = .bool b) ∨ (∃ i, d = .int i) ∨ ∃ x, d = .str x) ∨ ∃ xs, (d = .list xs ∨ d = .tuple xs) ∧ xs.length ≤ 100000 ∧ ∀ x ∈ xs, SameD n x
theorem SameD.none (n : Nat) : SameD (n + 1) .none := .inl (.inl rfl)
theorem SameD.bool (n : Nat) (b : Bool) : SameD (n + 1) (.bool b) := .inl (.inr (.inl ⟨b, rfl⟩))
theorem SameD.int (n : Nat) (i : Int) : SameD (n + 1) (.int i) := .inl (.inr (.inr (.inl ⟨i, rfl⟩)))
theorem SameD.str (n : Nat) (x : Str) : SameD (n + 1) (.str x) := .inl (.inr (.inr (.inr ⟨x, rfl⟩)))
theorem SameD.list {n : Nat} {xs : List PyData} (hl : xs.length ≤ 100000) (h : ∀ x ∈ xs, SameD n x) : SameD (n + 1) (.list xs) := .inr ⟨xs, .inl rfl, hl, h⟩
theorem SameD.tuple {n : Nat} {xs : List PyData} (hl : xs.length ≤ 100000) (h : ∀ x ∈ xs, SameD n x) : SameD (n + 1) (.tuple xs) := .inr ⟨xs, .inr rfl, hl, h⟩
def sameSp (n : Nat) : VSp := fun ds k => ∃ d, ds = [d, d] ∧ SameD n d ∧ k (.bool true, false)
end EV
namespace EV
open PySem PySem.Spec PyProof.Rows L2 D0
section
variable {K : PySem.W.Frag}
def OpTM (K : PySem.W.Frag) (r : V → List V → Hp → VK → Prop) (f : List PyData → List PyData → KO → Prop) : Prop :=
  ∀ N H a xs ds ws es k Q, NOk N H → TupZ H a xs → RepA K N H xs ds → LooseA K N H ws es → f ds es k → (∀ H' w x, k x → Out K N H H' w x → Q w H') → r (.ref a) ws H Q
def vTM (f : List PyData → List PyData → KO → Prop) (fb : FB) (fa : FA) : FE := fun s P => fb s fun x s1 => (∃ ds, rsv s1 x = some (.tuple ds) ∧ constS ds = false) ∧ fa s1 fun ys s2 => ∃ ds es, rsv s2 x = some (.tuple ds) ∧ constS ds = false ∧ rsvA s2 ys = some es ∧ f ds es fun r => P r s2
theorem tupZ_of {N : Addr → Prop} {H : Hp} {v : V} {ds : List PyData} (h : Loose K N H v (.tuple ds)) (c : constS ds = false) : ∃ a xs, v = .ref a ∧ TupZ H a xs ∧ RepA K N H xs ds := by
  cases (show Rep K N H v (.tuple ds) from h) with
  | tup e ra =>
    rcases e with e | ⟨_, e⟩
    · exact ⟨_, _, rfl, e, ra⟩
    · rw [c] at e; cases e
theorem le_tm {te : TE} {ta : TA} {fb : FB} {fa : FA} {r : V → List V → Hp → VK → Prop} {f : List PyData → List PyData → KO → Prop} (ho : OpTM K r f) (hb : LB K te fb) (ha : LA K ta fa) : LE K (tTM r te ta) (vTM f fb fa) := ⟨fun C A σ H s P Q R0 p q => by
  refine hb.run C A σ H s _ _ R0 p fun H1 v bv s1 ⟨⟨ds, e1, c1⟩, p1⟩ R1 fr dm br => ?_
  obtain ⟨a, xs, rfl, z, _⟩ := tupZ_of (br.loose R1 e1) c1
  refine ⟨⟨a, xs, rfl, z⟩, ha.run C A σ H1 s1 _ _ R1 p1 fun H2 vs bvs s2 ⟨ds2, es, e2, c2, e3, px⟩ R2 fr2 dm2 brs => ?_⟩
  obtain ⟨a2, xs2, ea, z2, ra⟩ := tupZ_of ((br.keep fr2 dm2).loose R2 e2) c2
  cases ea
  exact ho _ H2 a xs2 ds2 vs es _ _ R2.mok z2 ra (looseA R2 brs e3) px fun H3 w x kx o => q H3 w x s2 kx (.after (fr.trans dm fr2) (dm.trans dm2) (out_er R2 o))⟩
def fTCount (ds es : List PyData) (k : KO) : Prop := ∃ d, es = [d] ∧ SeqAt.shaped d = true ∧ SeqAt.shaped (.tuple ds) = true ∧ k (.int ((ds.countP fun z => PyData.eqv z d : Nat) : Int), false)
theorem ol_tcount : OpTM K (rTCount K) fTCount := fun N H a xs ds ws es k Q nk z ra la ⟨d, e, sd, sds, hk⟩ q => by
  subst e
  cases la with
  | cons h t =>
    cases t
    obtain ⟨o, eo, _⟩ := z
    exact ⟨a, xs, _, d, ds, rfl, rfl, .inl (.inr ⟨o, eo⟩), h.dp (shaped_lay sd), RepA.dp _ _ (by have := shaped_lay sds; simpa [PyData.canLay0] using this) ra, sd, sds, q _ _ _ hk out_int⟩
end
section
variable {s : VS} {P : PyData × Bool → VS → Prop} {k : KO}
theorem w_tm {f : List PyData → List PyData → KO → Prop} {fb : FB} {fa : FA} (q : fb s fun x s1 => (∃ ds, rsv s1 x = some (.tuple ds) ∧ constS ds = false) ∧ fa s1 fun ys s2 => ∃ ds es, rsv s2 x = some (.tuple ds) ∧ constS ds = false ∧ rsvA s2 ys = some es ∧ f ds es fun r => P r s2) : vTM f fb fa s P := q
theorem w_tmA {x : Bv} {ds : List PyData} {R : Prop} (h : rsv s x = some (.tuple ds)) (c : constS ds = false) (q : R) : (∃ ds, rsv s x = some (.tuple ds) ∧ constS ds = false) ∧ R := ⟨⟨ds, h, c⟩, q⟩
theorem w_tmB {x : Bv} {ys : List Bv} {ds es : List PyData} {R : List PyData → List PyData → Prop} (h : rsv s x = some (.tuple ds)) (c : constS ds = false) (h2 : rsvA s ys = some es) (q : R ds es) : ∃ ds es, rsv s x = some (.tuple ds) ∧ constS ds = false ∧ rsvA s ys = some es ∧ R ds es := ⟨ds, es, h, c, h2, q⟩
theorem o_tcount {ds : List PyData} {d : PyData} (sd : SeqAt.shaped d = true) (sds : SeqAt.shaped (.tuple ds) = true) (q : k (.int ((ds.countP fun z => PyData.eqv z d : Nat) : Int), false)) : fTCount ds [d] k := ⟨d, rfl, sd, sds, q⟩
end
end EV
namespace EV
open PySem PySem.Spec PyProof.Rows L2 D0
theorem dLtT {X : Cx} (K : PySem.W.Frag) (hu : X.A.units + 65 < cLine) (hK : X.K = K := by rfl) : OpR X (compareOp .Lt) (rLtT K) := by subst hK; exact op_ltT (by omega)
def fLtT (d e : PyData) (k : KO) : Prop := ∃ ns ms : List Int, d = .tuple (ns.map .int) ∧ e = .tuple (ms.map .int) ∧ k (.bool (HT.lexLt ns ms), false)
theorem ol_ltT {K : PySem.W.Frag} : OpL2 K (rLtT K) fLtT := fun N H u v d e k Q nk hu hv ⟨ns, ms, e1, e2, hk⟩ q => by
  subst e1
  subst e2
  cases (show Rep K N H u (.tuple _) from hu) with
  | tup ea ra => cases (show Rep K N H v (.tuple _) from hv) with
    | tup eb rb =>
      have sa := ea.sqt
      have sb := eb.sqt
      rw [ra.ints] at sa
      rw [rb.ints] at sb
      exact ⟨_, _, ns, ms, rfl, rfl, sa, sb, q _ _ _ hk out_bl⟩
theorem o_ltT {ns ms : List Int} {k : KO} (q : k (.bool (HT.lexLt ns ms), false)) : fLtT (.tuple (ns.map .int)) (.tuple (ms.map .int)) k := ⟨ns, ms, rfl, rfl, q⟩
abbrev TriD := Int × Bool × Int
def triD (t : TriD) : PyData := .tuple [.int t.1, .bool t.2.1, .int t.2.2]
def triK (t : TriD) : Tri := (t.1, b2i t.2.1, t.2.2)
theorem toks_tri (t : TriD) : PySem.W.keyToks (triD t) = PySem.W.keyToks (.tuple [.int (triK t).1, .int (triK t).2.1, .int (triK t).2.2]) := by
  obtain ⟨a, b, c⟩ := t
  cases b <;> rfl
theorem lt_tri (p q : TriD) : PySem.W.dataLt (triD p) (triD q) = lexT (triK p) (triK q) := by
  unfold PySem.W.dataLt
  rw [toks_tri, toks_tri]
  show PySem.W.dataLt (.tuple [.int (triK p).1, .int (triK p).2.1, .int (triK p).2.2]) (.tuple [.int (triK q).1, .int (triK q).2.1, .int (triK q).2.2]) = _
  rw [PySem.W.dataLt_tuple, PySem.W.dataLt_cons (by simp [PySem.W.alike]), PySem.W.dataLt_cons (by simp [PySem.W.alike]), PySem.W.dataLt_cons (by simp [PySem.W.alike])]
  have e : PyProof.Rows.lexLt PyProof.Rows.itemOrd (PySem.W.keyToksAll []) (PySem.W.keyToksAll []) = false := PyProof.Rows.lex_irrefl _
  rw [e, PySem.W.dataLt_int, PySem.W.dataLt_int, PySem.W.dataLt_int]
  simp only [PyData.eqv, beq_iff_eq]
  unfold lexT
  by_cases h1 : (triK p).1 = (triK q).1 <;> by_cases h2 : (triK p).2.1 = (triK q).2.1 <;> by_cases h3 : (triK p).2.2 = (triK q).2.2 <;> simp [h1, h2, h3]
def triLe (p q : TriD) : Bool := !lexT (triK q) (triK p)
theorem o_sortTs {e : PyData} {ts : List TriD} {k : KO} (hs : seqOf e = some (ts.map triD)) (q : ∀ us : List TriD, us.Perm ts → us.Pairwise (fun p q => lexT (triK q) (triK p) = false) → k (.list (us.map triD), true)) : fSortD [e] k := by
  have lay : ∀ ts : List TriD, PyData.canLayAll0 (ts.map triD) = true := by
    intro ts
    induction ts with
    | nil => rfl
    | cons t ts ih =>
      show (PyData.canLay0 (triD t) && PyData.canLayAll0 (ts.map triD)) = true
      rw [ih]; rfl
  refine o_sortB triD triLe hs (lay ts) ?_ (.tuples fun b => ⟨_, _, rfl⟩) (fun b _ => by simp [triD, PyData.depth, PyData.depthAll]) ?_ ?_
  · exact .of fun b b' => by simp [triD, PySem.W.alike, PySem.W.alikeAll]
  · funext p q
    show (!PySem.W.dataLt (triD q) (triD p)) = _
    rw [lt_tri]; rfl
  · refine q _ (List.mergeSort_perm _ _) ((List.pairwise_mergeSort (fun a b c h1 h2 => ?_) (fun a b => ?_) ts).imp fun h => ?_)
    · unfold triLe at *
      simp only [Bool.not_eq_true'] at *
      rw [lexT_no] at *
      omega
    · unfold triLe
      rw [Bool.or_eq_true, Bool.not_eq_true', Bool.not_eq_true', lexT_no, lexT_no]
      omega
    · unfold triLe at h
      rw [Bool.not_eq_true'] at h
      exact h
end EV
namespace K63
open PySem PySem.Spec PyProof.Rows L2 D0
def topS (i : Nat) : Stmt := PySem.Challenge.pw_drawnlayers_k63_median_orders.main.body.getD i (.Pass ⟨0, 0, 0, 0⟩)
abbrev s_places_by_level : Stmt := topS 1
theorem sc_places_by_level : FnScope ["net", "levels", "many", "place", "at", "level"] ["net"] (defScope s_places_by_level) := ⟨rfl, rfl, rfl, by decide +kernel, rfl, by decide +kernel, by decide +kernel⟩
abbrev s_median_order : Stmt := topS 3
theorem sc_median_order : FnScope ["net", "orders", "level", "indexes", "at", "place", "rows", "found", "upper", "lower", "median", "is_even", "row"] ["net", "orders", "level"] (defScope s_median_order) := ⟨rfl, rfl, rfl, by decide +kernel, rfl, by decide +kernel, by decide +kernel⟩
abbrev s_start_orders : Stmt := topS 4
theorem sc_start_orders : FnScope ["net", "rows", "orders", "level"] ["net"] (defScope s_start_orders) := ⟨rfl, rfl, rfl, by decide +kernel, rfl, by decide +kernel, by decide +kernel⟩
abbrev s_law_bag : Stmt := topS 6
theorem sc_law_bag : FnScope ["script", "cell"] ["script"] (defScope s_law_bag) := ⟨rfl, rfl, rfl, by decide +kernel, rfl, by decide +kernel, by decide +kernel⟩
abbrev s_law_draw : Stmt := topS 7
theorem sc_law_draw : FnScope ["bag", "many", "cell", "drawn", "first", "second", "third"] ["bag", "many"] (defScope s_law_draw) := ⟨rfl, rfl, rfl, by decide +kernel, rfl, by decide +kernel, by decide +kernel⟩
abbrev s_law_pick : Stmt := topS 8
theorem sc_law_pick : FnScope ["bag", "things"] ["bag", "things"] (defScope s_law_pick) := ⟨rfl, rfl, rfl, by decide +kernel, rfl, by decide +kernel, by decide +kernel⟩
abbrev s_law_shuffle : Stmt := topS 9
theorem sc_law_shuffle : FnScope ["bag", "things", "rest", "mixed", "k"] ["bag", "things"] (defScope s_law_shuffle) := ⟨rfl, rfl, rfl, by decide +kernel, rfl, by decide +kernel, by decide +kernel⟩
abbrev s_law_whole : Stmt := topS 10
theorem sc_law_whole : FnScope ["got"] ["got"] (defScope s_law_whole) := ⟨rfl, rfl, rfl, by decide +kernel, rfl, by decide +kernel, by decide +kernel⟩
abbrev s_law_wholes : Stmt := topS 11
theorem sc_law_wholes : FnScope ["got", "many", "one"] ["got", "many"] (defScope s_law_wholes) := ⟨rfl, rfl, rfl, by decide +kernel, rfl, by decide +kernel, by decide +kernel⟩
abbrev s_law_any_net : Stmt := topS 12
theorem sc_law_any_net : FnScope ["bag", "depth", "most", "ties", "levels", "k", "r", "segments", "above", "p", "below"] ["bag"] (defScope s_law_any_net) := ⟨rfl, rfl, rfl, by decide +kernel, rfl, by decide +kernel, by decide +kernel⟩
abbrev s_law_rows_of : Stmt := topS 13
theorem sc_law_rows_of : FnScope ["net", "depth", "p", "r"] ["net"] (defScope s_law_rows_of) := ⟨rfl, rfl, rfl, by decide +kernel, rfl, by decide +kernel, by decide +kernel⟩
abbrev s_law_orders : Stmt := topS 14
theorem sc_law_orders : FnScope ["bag", "net", "row"] ["bag", "net"] (defScope s_law_orders) := ⟨rfl, rfl, rfl, by decide +kernel, rfl, by decide +kernel, by decide +kernel⟩
abbrev s_law_key : Stmt := topS 15
theorem sc_law_key : FnScope ["net", "before", "place", "counts", "upper", "many", "median", "passed", "k"] ["net", "before", "place"] (defScope s_law_key) := ⟨rfl, rfl, rfl, by decide +kernel, rfl, by decide +kernel, by decide +kernel⟩
abbrev s_law_by_medians : Stmt := topS 16
theorem sc_law_by_medians : FnScope ["net", "before", "row", "got", "keys", "place", "k"] ["net", "before", "row", "got"] (defScope s_law_by_medians) := ⟨rfl, rfl, rfl, by decide +kernel, rfl, by decide +kernel, by decide +kernel⟩
abbrev s_law_kept : Stmt := topS 17
theorem sc_law_kept : FnScope ["orders", "other", "r", "rows"] ["orders", "other", "r"] (defScope s_law_kept) := ⟨rfl, rfl, rfl, by decide +kernel, rfl, by decide +kernel, by decide +kernel⟩
abbrev s_law_started : Stmt := topS 18
theorem sc_law_started : FnScope ["net", "rows", "start", "r"] ["net", "rows", "start"] (defScope s_law_started) := ⟨rfl, rfl, rfl, by decide +kernel, rfl, by decide +kernel, by decide +kernel⟩
abbrev s_law : Stmt := topS 19
theorem sc_law : FnScope ["script", "bag", "net", "rows", "orders", "other", "r"] ["script"] (defScope s_law) := ⟨rfl, rfl, rfl, by decide +kernel, rfl, by decide +kernel, by decide +kernel⟩
structure Txt (K : PySem.W.Frag) (mg : Str → Option Value) where
  f_places_by_level : Addr
  fd_places_by_level : FuncData
  F_places_by_level : Fun K "places_by_level" "places_by_level" s_places_by_level f_places_by_level fd_places_by_level
  g_places_by_level : mg "places_by_level" = some (.ref f_places_by_level)
  b_places_by_level : Binds K fd_places_by_level ["net"] []
  f_median_order : Addr
  fd_median_order : FuncData
  F_median_order : Fun K "median_order" "median_order" s_median_order f_median_order fd_median_order
  g_median_order : mg "median_order" = some (.ref f_median_order)
  b_median_order : Binds K fd_median_order ["net", "orders", "level"] []
  f_start_orders : Addr
  fd_start_orders : FuncData
  F_start_orders : Fun K "start_orders" "start_orders" s_start_orders f_start_orders fd_start_orders
  g_start_orders : mg "start_orders" = some (.ref f_start_orders)
  b_start_orders : Binds K fd_start_orders ["net"] []
  f_law_bag : Addr
  fd_law_bag : FuncData
  F_law_bag : Fun K "_law_bag" "_law_bag" s_law_bag f_law_bag fd_law_bag
  g_law_bag : mg "_law_bag" = some (.ref f_law_bag)
  b_law_bag : Binds K fd_law_bag ["script"] []
  f_law_draw : Addr
  fd_law_draw : FuncData
  F_law_draw : Fun K "_law_draw" "_law_draw" s_law_draw f_law_draw fd_law_draw
  g_law_draw : mg "_law_draw" = some (.ref f_law_draw)
  b_law_draw : Binds K fd_law_draw ["bag", "many"] []
  f_law_pick : Addr
  fd_law_pick : FuncData
  F_law_pick : Fun K "_law_pick" "_law_pick" s_law_pick f_law_pick fd_law_pick
  g_law_pick : mg "_law_pick" = some (.ref f_law_pick)
  b_law_pick : Binds K fd_law_pick ["bag", "things"] []
  f_law_shuffle : Addr
  fd_law_shuffle : FuncData
  F_law_shuffle : Fun K "_law_shuffle" "_law_shuffle" s_law_shuffle f_law_shuffle fd_law_shuffle
  g_law_shuffle : mg "_law_shuffle" = some (.ref f_law_shuffle)
  b_law_shuffle : Binds K fd_law_shuffle ["bag", "things"] []
  f_law_whole : Addr
  fd_law_whole : FuncData
  F_law_whole : Fun K "_law_whole" "_law_whole" s_law_whole f_law_whole fd_law_whole
  g_law_whole : mg "_law_whole" = some (.ref f_law_whole)
  b_law_whole : Binds K fd_law_whole ["got"] []
  f_law_wholes : Addr
  fd_law_wholes : FuncData
  F_law_wholes : Fun K "_law_wholes" "_law_wholes" s_law_wholes f_law_wholes fd_law_wholes
  g_law_wholes : mg "_law_wholes" = some (.ref f_law_wholes)
  b_law_wholes : Binds K fd_law_wholes ["got", "many"] []
  f_law_any_net : Addr
  fd_law_any_net : FuncData
  F_law_any_net : Fun K "_law_any_net" "_law_any_net" s_law_any_net f_law_any_net fd_law_any_net
  g_law_any_net : mg "_law_any_net" = some (.ref f_law_any_net)
  b_law_any_net : Binds K fd_law_any_net ["bag"] []
  f_law_rows_of : Addr
  fd_law_rows_of : FuncData
  F_law_rows_of : Fun K "_law_rows_of" "_law_rows_of" s_law_rows_of f_law_rows_of fd_law_rows_of
  g_law_rows_of : mg "_law_rows_of" = some (.ref f_law_rows_of)
  b_law_rows_of : Binds K fd_law_rows_of ["net"] []
  f_law_orders : Addr
  fd_law_orders : FuncData
  F_law_orders : Fun K "_law_orders" "_law_orders" s_law_orders f_law_orders fd_law_orders
  g_law_orders : mg "_law_orders" = some (.ref f_law_orders)
  b_law_orders : Binds K fd_law_orders ["bag", "net"] []
  f_law_key : Addr
  fd_law_key : FuncData
  F_law_key : Fun K "_law_key" "_law_key" s_law_key f_law_key fd_law_key
  g_law_key : mg "_law_key" = some (.ref f_law_key)
  b_law_key : Binds K fd_law_key ["net", "before", "place"] []
  f_law_by_medians : Addr
  fd_law_by_medians : FuncData
  F_law_by_medians : Fun K "_law_by_medians" "_law_by_medians" s_law_by_medians f_law_by_medians fd_law_by_medians
  g_law_by_medians : mg "_law_by_medians" = some (.ref f_law_by_medians)
  b_law_by_medians : Binds K fd_law_by_medians ["net", "before", "row", "got"] []
  f_law_kept : Addr
  fd_law_kept : FuncData
  F_law_kept : Fun K "_law_kept" "_law_kept" s_law_kept f_law_kept fd_law_kept
  g_law_kept : mg "_law_kept" = some (.ref f_law_kept)
  b_law_kept : Binds K fd_law_kept ["orders", "other", "r"] []
  f_law_started : Addr
  fd_law_started : FuncData
  F_law_started : Fun K "_law_started" "_law_started" s_law_started f_law_started fd_law_started
  g_law_started : mg "_law_started" = some (.ref f_law_started)
  b_law_started : Binds K fd_law_started ["net", "rows", "start"] []
  n_abs : mg "abs" = none
  n_bool : mg "bool" = none
  n_enumerate : mg "enumerate" = none
  n_int : mg "int" = none
  n_isinstance : mg "isinstance" = none
  n_len : mg "len" = none
  n_list : mg "list" = none
  n_max : mg "max" = none
  n_min : mg "min" = none
  n_range : mg "range" = none
  n_sorted : mg "sorted" = none
  n_sum : mg "sum" = none
  n_tuple : mg "tuple" = none
end K63
namespace K63
open PySem PySem.Spec PyProof.Rows L2 D0
local macro_rules | `(tactic| walk_at "neB") => `(tactic| with_reducible first | assumption | (apply Ne.symm; assumption) | (refine' BagAt.ne ?x ?h; (case h => assumption); (case x => assumption)))
local macro_rules | `(tactic| walk_at "hq") => `(tactic| with_reducible first | assumption | exact upd_same | ((first | (refine' hp_new ?nn ?hq; (case nn => assumption)) | (refine' Off.get ?f ?ne ?hq; (case f => assumption); (case ne => walk_at "neB"))); (case hq => walk_at "hq")))
local macro_rules | `(tactic| walk_at "neA") => `(tactic| with_reducible first | (refine' BagAt.ne ?x ?h; (case h => assumption); (case x => assumption)) | (refine' ne_of_none ?x ?h; (case h => assumption); (case x => walk_at "hq")))
local macro_rules | `(tactic| walk_at "ne") => `(tactic| with_reducible first | assumption | (apply Ne.symm; assumption) | walk_at "neA" | (apply Ne.symm; walk_at "neA"))
local macro_rules | `(tactic| walk_at "off") => `(tactic| with_reducible repeat' (first | assumption | exact Off.refl _ _ | apply Off.set | (refine' Off.new ?_ ?h; (case h => assumption)) | (refine' Off.trans ?_ ?f; (case f => assumption))))
local macro_rules | `(tactic| walk_at "hp") => `(tactic| with_reducible first | assumption | exact upd_same | ((first | (refine' hp_new ?nn ?hp; (case nn => assumption)) | (refine' hp_set ?ne ?hp; (case ne => walk_at "ne")) | (refine' Off.get ?f ?ne ?hp; (case f => assumption); (case ne => walk_at "ne"))); (case hp => walk_at "hp")))
local macro_rules | `(tactic| walk_at "sq") => `(tactic| with_reducible first | assumption | (refine' SqL.of ?hh; (case hh => walk_at "hp")) | ((first | (refine' sq_new ?nn ?sq; (case nn => assumption)) | (refine' sq_set ?ne ?sq; (case ne => walk_at "ne")) | (refine' Off.seq ?f ?ne ?sq; (case f => assumption); (case ne => walk_at "ne"))); (case sq => walk_at "sq")))
local macro_rules | `(tactic| walk_at "sqt") => `(tactic| with_reducible first | assumption | (refine' SqT.of ?hh; (case hh => walk_at "hp")) | ((first | (refine' sqt_new ?nn ?sq; (case nn => assumption)) | (refine' sqt_set ?ne ?sq; (case ne => walk_at "ne")) | (refine' Off.seqT ?f ?ne ?sq; (case f => assumption); (case ne => walk_at "ne"))); (case sq => walk_at "sqt")))
/- straight-line steps of a reading -/
local macro_rules | `(tactic| walk_at "at") => `(tactic| first | assumption | rfl | exact atI_nat (j := 0) rfl | exact atI_nat (j := 1) rfl | exact atI_nat (j := 2) rfl | exact at_ints (by omega) (by omega))
local macro_rules | `(tactic| walk_at "sz") => `(tactic| first | assumption | decide | exact sz4 (by omega) | exact sz4' (by omega) | (simp only [List.length_map, List.length_append, List.length_cons, List.length_nil, List.length_range, List.length_replicate]; first | exact sz4 (by omega) | exact sz4' (by omega) | omega))
local macro_rules | `(tactic| walk_at "mul") => `(tactic| first | exact .inr ⟨by decide, by decide⟩ | exact mul_fm (by decide) (by decide) | exact .inl ⟨by omega, by omega⟩ | exact .inr ⟨by omega, by omega⟩)
local macro_rules | `(tactic| walk_at "div") => `(tactic| with_reducible first | exact div97 | exact div3 | exact div2 | exact div_m (by assumption) (by assumption))
local macro_rules | `(tactic| walk_at "nz") => `(tactic| first | decide | omega)
local macro_rules | `(tactic| walk_at "rd") => `(tactic| repeat' walk_at "rd1")
local macro_rules | `(tactic| walk_at "rdA") => `(tactic| with_reducible first
  | refine rd_op ?_
  | refine rd_c ?_
  | refine rd_cb ?_
  | refine rd_cons ?_
  | refine rd_nil ?_
  | refine rd_bl ?_
  | refine rd_ii ?_
  | refine rd_M1 ?_
  | refine rd_M0 ?_
  | refine rd_isS ?_
  | refine rd_test ?_
  | refine rd_B ?_
  | refine rd_and ?_
  | refine rd_or ?_
  | refine rd_not ?_
  | refine rd_andV ?_
  | refine rd_orV ?_
  | refine rd_notV ?_
  | refine rd_ifE ?_
  | refine rd_chain ?_
  | refine rd_seq ?_
  | refine rd_if ?_
  | refine rd_asg ?_
  | refine rd_gname ?_
  | refine rd_gsub ?_
  | refine rd_drop ?_
  | refine rd_ret ?_
  | refine rd_retN ?_
  | refine rd_brk ?_
  | refine rd_cnt ?_
  | refine rd_next ?_
  | refine rd_tup ?_
  | refine rd_lst ?_
  | refine rd_BM ?_
  | refine rd_gcons ?_
  | refine rd_gnil ?_
  | refine rd_sl ?_
  | refine rd_nopart ?_
  | refine rd_part ?_
  | refine rd_un ?_
  | refine rd_call ?_
  | refine rd_callN ?_
  | refine rd_fld ?_
  | refine rd_sfld ?_
  | refine rd_meth ?_
  | refine rd_make ?_
  | refine rd_stat ?_
  | refine rv_stat ?_
  | refine rd_lenSet ?_
  | refine rd_dget ?_
  | refine rd_din ?_
  | refine rd_dnin ?_
  | refine rd_dput ?_
  | refine rd_dnewK ?_
  | refine rd_dnewT ?_
  | refine rd_listRg ?_
  | refine rd_rg1 ?_
  | refine rd_rg2 ?_
  | refine rv_i2 ?_
  | refine rd_yes ?_
  | refine rd_iList ?_
  | refine rd_iTup ?_
  | refine rd_augS ?_
  | refine rv_ipI ?_
  | refine rd_zipA ?_
  | refine rd_enumT ?_
  | refine rd_for ?_
  | refine rd_rng1 ?_
  | refine rd_revL ?_
  | refine rv_addI ?_
  | refine rv_sub ?_
  | refine rv_lt ?_
  | refine rv_le ?_
  | refine rv_gt ?_
  | refine rv_ge ?_
  | refine rv_eqI ?_
  | refine rv_neI ?_
  | refine rv_eqS ?_
  | refine rv_eqB ?_
  | refine rv_neS ?_
  | refine rv_neB ?_
  | refine rv_int ?_
  | refine rv_inS ?_
  | refine rv_isNn ?_
  | refine rv_isNr ?_
  | refine rv_isNi ?_
  | refine rv_isNb ?_
  | refine rv_isNs ?_
  | refine rv_notNn ?_
  | refine rv_notNr ?_
  | refine rv_notNi ?_
  | refine rv_ninS ?_
  | refine rv_abs ?_
  | refine rv_max2 ?_
  | refine rv_min2 ?_
  | refine rv_ord ?_
  | refine rv_neg ?_
  | refine iteT ?_
  | refine iteF ?_
  | refine iteD (fun h => ?_) (fun h => ?_)
  | refine iteND (fun h => ?_) (fun h => ?_))
local macro_rules | `(tactic| walk_at "rd1") => `(tactic| first
  | ((with_reducible refine' rd_andB ?h ?_); (case h => (intro Qe hq; walk_at "rd"; exact hq)))
  | ((with_reducible refine' rd_orB ?h ?_); (case h => (intro Qe hq; walk_at "rd"; exact hq)))
  | walk_at "rdA"
  | ((with_reducible refine' rd_var ?h ?_); (case h => rfl))
  | ((with_reducible refine' rd_wipe ?h ?_); (case h => rfl))
  | ((with_reducible refine' rd_aug ?h ?_); (case h => rfl))
  | ((with_reducible refine' rv_ixL ?h ?c ?_); (case h => walk_at "sq"); (case c => walk_at "at"))
  | ((with_reducible refine' rv_ixS ?h ?c ?_); (case h => walk_at "sz"); (case c => walk_at "at"))
  | ((with_reducible refine' rv_setL ?h ?c ?_); (case h => walk_at "hp"); (case c => rfl))
  | ((with_reducible refine' rv_mulI ?h ?_); (case h => walk_at "mul"))
  | ((with_reducible refine' rv_mod ?h ?_); (case h => walk_at "nz"))
  | ((with_reducible refine' rv_div ?h ?_); (case h => walk_at "div"))
  | ((with_reducible refine' rv_pow ?h ?_); (case h => exact ⟨by decide, by decide, by decide⟩))
  | ((with_reducible refine' rv_get ?h ?h0 ?c ?_); (case h => walk_at "sq"); (case h0 => omega); (case c => walk_at "at"))
  | ((with_reducible refine' rv_lenL ?h ?_); (case h => walk_at "sq"))
  | ((with_reducible refine' rv_lenS ?h ?_); (case h => walk_at "sz"))
  | ((with_reducible refine' rv_addS ?h ?_); (case h => walk_at "sz"))
  | ((with_reducible refine' rd_tyL ?h ?_); (case h => walk_at "sq"))
  | (with_reducible refine rd_tyS ?_)
  | ((with_reducible refine' rv_inL ?h ?hx ?hf ?_); (case h => walk_at "sq"); (case hx => rfl); (case hf => rfl))
  | ((with_reducible refine' rv_ninL ?h ?hx ?hf ?_); (case h => walk_at "sq"); (case hx => rfl); (case hf => rfl))
  | ((with_reducible refine' rv_all ?h ?_); (case h => walk_at "sq"))
  | ((with_reducible refine' rv_addL ?h1 ?h2 ?h3 (fun p hp => ?_)); (case h1 => walk_at "hp"); (case h2 => walk_at "hp"); (case h3 => walk_at "sz"))
  | (with_reducible refine iteB (fun h => ?_) (fun h => ?_))
  | (refine ⟨rfl, rfl, ?_⟩)
  | ((with_reducible refine' rv_up ?h ?_); (case h => omega))
  | ((with_reducible refine' rv_iL ?h ?_); (case h => walk_at "sq"))
  | ((with_reducible refine' rv_iT ?h ?_); (case h => walk_at "sqt"))
  | ((with_reducible refine' rv_listL ?h (fun p hp => ?_)); (case h => walk_at "sq"))
  | ((with_reducible refine' rv_listT ?h (fun p hp => ?_)); (case h => walk_at "sqt"))
  | ((with_reducible refine' rv_tupL ?h (fun p hp => ?_)); (case h => walk_at "sq"))
  | ((with_reducible refine' rv_tupT ?h ?_); (case h => walk_at "sqt"))
  | ((with_reducible refine' rv_ixT ?h ?c ?_); (case h => walk_at "sqt"); (case c => walk_at "at"))
  | ((with_reducible refine' rd_gtup ?h ?c ?_); (case h => walk_at "sqt"); (case c => rfl))
  | ((with_reducible refine' rv_lenT ?h ?_); (case h => walk_at "sqt"))
  | ((with_reducible refine' rv_isiB ?h ?_); (case h => with_reducible first | exact isi_bool_bool | exact isi_bool_int | exact isi_bool_str | exact isi_bool_list | exact isi_bool_tuple | exact isi_bool_dict))
  | ((with_reducible refine' rv_isiI ?h ?_); (case h => with_reducible first | exact isi_int_bool | exact isi_int_int | exact isi_int_str | exact isi_int_list | exact isi_int_tuple | exact isi_int_dict))
  | ((with_reducible refine' rv_isiS ?h ?_); (case h => with_reducible first | exact isi_str_bool | exact isi_str_int | exact isi_str_str | exact isi_str_list | exact isi_str_tuple | exact isi_str_dict))
  | ((with_reducible refine' rv_isiN ?h ?_); (case h => with_reducible first | exact isi_NoneType_bool | exact isi_NoneType_int | exact isi_NoneType_str | exact isi_NoneType_list | exact isi_NoneType_tuple | exact isi_NoneType_dict))
  | ((with_reducible refine' rv_isiL ?e ?h ?_); (case e => walk_at "hp"); (case h => with_reducible first | exact isi_list_bool | exact isi_list_int | exact isi_list_str | exact isi_list_list | exact isi_list_tuple | exact isi_list_dict))
  | ((with_reducible refine' rv_isiT ?e ?h ?_); (case e => walk_at "hp"); (case h => with_reducible first | exact isi_tuple_bool | exact isi_tuple_int | exact isi_tuple_str | exact isi_tuple_list | exact isi_tuple_tuple | exact isi_tuple_dict))
  | ((with_reducible refine' rv_revL ?h ?_); (case h => walk_at "sq"))
  | (with_reducible refine fun (p : Addr) (hp : _ = none) => ?_)
  | ((with_reducible refine' rv_slL ?h (fun p hp => ?_)); (case h => walk_at "sq"))
  | ((with_reducible refine' rv_slS ?h ?_); (case h => walk_at "sz"))
  | ((with_reducible refine' rv_ext ?h ?h2 ?c ?_); (case h => walk_at "hp"); (case h2 => walk_at "hp"); (case c => walk_at "sz"))
  | (refine ⟨(by simp only [List.length_cons, List.length_nil]; decide), fun p hp => ?_⟩)
  | ((with_reducible refine' rv_app ?h ?c ?_); (case h => walk_at "hp"); (case c => walk_at "sz"))
  )
local macro_rules | `(tactic| walk_at "bag") => `(tactic| first | assumption | (refine ⟨_, _, _, _, _, upd_same, (by assumption), ?hp, (by omega), (by omega)⟩; (case hp => walk_at "hp")) | exact ⟨_, _, _, _, _, (by assumption), (by assumption), (by assumption), (by assumption), (by assumption)⟩ | (refine BagAt.new ?_ (by assumption); walk_at "bag") | (refine BagAt.put ?_ (by assumption) (by assumption); walk_at "bag"))

section
variable {P : Program} {w : World} {K : PySem.W.Frag} {mg : Str → Option Value} {base : Heap}
theorem ok_law_draw (T : Txt K mg) : FnOk P w K mg base CX0 1 T.f_law_draw T.fd_law_draw ["bag", "many"] spDraw := by
  refine T.F_law_draw.ok sc_law_draw (fun vs H Q E h => ?_) (fun cdv A outer s H vs Q E hr h => ?_)
  · obtain ⟨b, c, cs, m, rfl, _⟩ := h
    rfl
  · obtain ⟨b, c, cs, m, rfl, hm, hm9, B, q⟩ := h
    have p18 : (0 : Int) ≤ 10 ^ Int.toNat 18 := by decide
    refine ⟨_, (C8.pss_cut (ps_if (PW.pt (pw_and (pt_cmpR dEq (pe_ix (dIx K) (pv 0) pe_int (fun _ _ => rfl)) pe_int (nomark _)) (pw_and (pt_cmpR dEq (pe_ix (dIx K) (pv 0) pe_int (fun _ _ => rfl)) pe_int (nomark _)) (pw_and1 (pt_cmpR dLt (pe_ix (dIx K) (pv 0) pe_int (fun _ _ => rfl)) (pe_callB (dLen K) (by rfl) T.n_len (by decide +kernel) (pa_cons (pe_ix (dIx K) (pv 0) pe_int (fun _ _ => rfl)) pa_nil)) (nomark _))))))
    (pss_cons (ps_set (i := 2) sc_law_draw.nd rfl (by first | exact Or.inl rfl | exact Or.inr rfl) (pe_ix (dIx K) (pe_ix (dIx K) (pv 0) pe_int (fun _ _ => rfl)) (pe_ix (dIx K) (pv 0) pe_int (fun _ _ => rfl)) (fun _ _ => rfl)))
    (pss_cons (ps_asg (pe_op (dAdd K) (pe_ix (dIx K) (pv 0) pe_int (fun _ _ => rfl)) pe_int) (pg_sub (pv 0) pe_int set_list))
    (pss_one (ps_if (pt_cmpR dGe (pv 2) (pe_op dPow pe_int pe_int) (nomark _))
     (pss_one (ps_asg (pv 2) (pg_sub (pv 0) pe_int set_list)))
     (pss_cons (ps_asg (pe_op dMod (pe_callTy dInt (by rfl) T.n_int (by decide +kernel) (pa_cons (pe_op (dAdd K) (pe_op dMul (pe_ix (dIx K) (pv 0) pe_int (fun _ _ => rfl)) pe_int) (pv 2)) pa_nil)) pe_int) (pg_sub (pv 0) pe_int set_list))
     (pss_one (ps_asg pe_int (pg_sub (pv 0) pe_int set_list))))))))
    pss_nil)
   (pss_cons (ps_if (pt_cmpR dGt (pe_ix (dIx K) (pv 0) pe_int (fun _ _ => rfl)) pe_int (nomark _))
    (pss_cons (ps_set (i := 3) sc_law_draw.nd rfl (by first | exact Or.inl rfl | exact Or.inr rfl) (pe_op dMod (pe_callTy dInt (by rfl) T.n_int (by decide +kernel) (pa_cons (pe_ix (dIx K) (pv 0) pe_int (fun _ _ => rfl)) pa_nil)) (pv 1)))
    (pss_cons (ps_asg (pe_op dDiv (pe_ix (dIx K) (pv 0) pe_int (fun _ _ => rfl)) (pv 1)) (pg_sub (pv 0) pe_int set_list))
    (pss_one (ps_ret (pv 3)))))
    pss_nil)
   (pss_cons (ps_asg (pe_op (dAdd K) (pe_ix (dIx K) (pv 0) pe_int (fun _ _ => rfl)) pe_int) (pg_sub (pv 0) pe_int set_list))
   (pss_cons (ps_if (pt_cmpR dGt (pe_ix (dIx K) (pv 0) pe_int (fun _ _ => rfl)) pe_int (nomark _))
    (pss_one (ps_asg (pe_op dSub (pe_ix (dIx K) (pv 0) pe_int (fun _ _ => rfl)) pe_int) (pg_sub (pv 0) pe_int set_list)))
    pss_nil)
   (pss_cons (ps_set (i := 4) sc_law_draw.nd rfl (by first | exact Or.inl rfl | exact Or.inr rfl) (pe_op dMod (pe_callTy dInt (by rfl) T.n_int (by decide +kernel) (pa_cons (pe_op (dAdd K) (pe_op (dAdd K) (pe_op dMul (pe_ix (dIx K) (pv 0) pe_int (fun _ _ => rfl)) pe_int) (pe_op dMul (pe_ix (dIx K) (pv 0) pe_int (fun _ _ => rfl)) pe_int)) pe_int) pa_nil)) pe_int))
   (pss_cons (ps_set (i := 5) sc_law_draw.nd rfl (by first | exact Or.inl rfl | exact Or.inr rfl) (pe_op dMod (pe_callTy dInt (by rfl) T.n_int (by decide +kernel) (pa_cons (pe_op (dAdd K) (pe_op (dAdd K) (pe_op dMul (pv 4) (pv 4)) (pe_op dMul (pe_ix (dIx K) (pv 0) pe_int (fun _ _ => rfl)) pe_int)) pe_int) pa_nil)) pe_int))
   (pss_cons (ps_set (i := 6) sc_law_draw.nd rfl (by first | exact Or.inl rfl | exact Or.inr rfl) (pe_op dMod (pe_callTy dInt (by rfl) T.n_int (by decide +kernel) (pa_cons (pe_op (dAdd K) (pe_op dMul (pv 5) (pv 5)) (pe_op dDiv (pv 5) pe_int)) pa_nil)) pe_int))
   (pss_one (ps_ret (pe_op dMod (pe_callTy dInt (by rfl) T.n_int (by decide +kernel) (pa_cons (pe_op dDiv (pv 6) pe_int) pa_nil)) (pv 1))))))))))), ?_⟩
    refine ⟨fun σ H' => ∃ x, σ = [some (.ref b), some (.int m), x, none, none, none, none] ∧ Off b H H' ∧ BagAt b c cs H', ?_, ?_⟩
    · obtain ⟨i, z, s, n, k, hb, ncb, hc, hi, hz⟩ := id B
      walk_at "rd"
      all_goals exact ⟨_, rfl, by walk_at "off", by walk_at "bag"⟩
    · rintro σ H1 ⟨x, rfl, f1, i, z, s, n, k, hb, ncb, hc, hi, hz⟩
      have zdiv : 0 ≤ z / m := Int.ediv_nonneg hz (by omega)
      walk_at "rd"
      all_goals exact q _ _ (by walk_at "off") (by walk_at "bag") (fm0 hm) (fm1 hm)
theorem ok_law_bag (T : Txt K mg) : FnOk P w K mg base CX0 1 T.f_law_bag T.fd_law_bag ["script"] (spBag K) := by
  refine T.F_law_bag.ok sc_law_bag (fun vs H Q E h => ?_) (fun cdv A outer s H vs Q E hr h => ?_)
  · obtain ⟨a, ns, rfl, _⟩ := h
    rfl
  · obtain ⟨a, ns, rfl, hS, hl, q⟩ := h
    refine ⟨_, (pss_one (ps_ret (pe_lst (pa_cons (pe_lc (own := [("cell", 1)]) (g := gName 1) (tt := tYes) rfl sc_law_bag.nd  (dpi_list K (pv 0)) (blkOk_by (own := [("cell", 1)]) (N := ["script", "cell"]) (sc := defScope s_law_bag) (by decide +kernel)) (fun _ _ _ _ _ => (pg_name (i := 1) sc_law_bag.nd rfl (by first | exact Or.inl rfl | exact Or.inr rfl))) (fun _ _ _ _ _ => pts_nil) (fun _ _ _ _ _ => (pe_callB dAbs (by rfl) T.n_abs (by decide +kernel) (pa_cons (pe_callTy dInt (by rfl) T.n_int (by decide +kernel) (pa_cons (pv 1) pa_nil)) pa_nil)))) (pa_cons pe_int (pa_cons pe_int (pa_cons pe_int (pa_cons pe_int (pa_cons pe_int pa_nil))))))))), ?_⟩
    walk_at "rd"
    refine lc_map (a := a) (xs := ns.map V.int) (fun x => match x with | .int i => .int (if i < 0 then -i else i) | _ => x) (fun Qe h => ?_) hS (by rw [List.length_map]; exact Nat.lt_of_le_of_lt hl (by decide)) (fun _ => rfl) ?_ ?_
    · walk_at "rd"; exact h
    · intro i x H' hx s1 Qe hq
      obtain ⟨n, rfl⟩ : ∃ n, x = V.int n := by
        obtain ⟨n, _, e⟩ := List.mem_map.mp (List.mem_of_getElem? hx)
        exact ⟨n, e.symm⟩
      walk_at "rd"
      exact hq _ fun _ _ e => e
    · intro D H1 hD s1 e1
      have e2 : List.map (fun x => match x with | .int i => .int (if i < 0 then -i else i) | _ => x) (ns.map V.int) = (ns.map fun i => if i < 0 then -i else i).map V.int := by
        rw [List.map_map, List.map_map]; rfl
      rw [e2] at e1
      walk_at "rd"
      rename_i p hp
      refine q _ _ D _ (s1.trans (same_upd hp)) (s1.free hp) ⟨_, _, _, _, _, upd_same, ne_of_none e1 hp, hp_new hp e1, by omega, by omega⟩
end
end K63

namespace K63
open PySem PySem.Spec PyProof.Rows L2 D0 EV
/- walking through a body's meaning -/
local macro_rules | `(tactic| walk_at "vsz") => `(tactic| first | assumption | decide | omega | exact Nat.le_of_ble_eq_true rfl | (simp only [List.length_map, List.length_append, List.length_cons, List.length_nil, List.length_range, List.length_replicate, List.length_reverse, rg_len]; first | decide | omega) | exact sz4 (by omega) | exact sz4' (by omega) | (simp only [List.length_map, List.length_append, List.length_cons, List.length_nil, List.length_range, List.length_replicate, List.length_reverse, rg_len, Str.length_append, len1, strD_len]; first | exact sz4 (by omega) | exact sz4' (by omega)))
local macro_rules | `(tactic| walk_at "vat") => `(tactic| first | assumption | rfl | exact atI_nat (j := 0) rfl | exact atI_nat (j := 1) rfl | exact atI_nat (j := 2) rfl)
local macro_rules | `(tactic| walk_at "vmul") => `(tactic| first | exact .inr ⟨by decide, by decide⟩ | exact .inl ⟨by omega, by omega⟩ | exact .inr ⟨by omega, by omega⟩)
local macro_rules | `(tactic| walk_at "vdiv") => `(tactic| with_reducible first | exact div97 | exact div3 | exact div2 | exact div_m (by omega) (by omega))
local macro_rules | `(tactic| walk_at "v") => `(tactic| repeat' walk_at "v1")
local macro_rules | `(tactic| walk_at "vA") => `(tactic| with_reducible first
  | refine w_seq ?_
  | refine w_asg ?_
  | refine w_asgG ?_
  | refine w_of ?_
  | refine w_c ?_
  | refine w_op ?_
  | refine w_un ?_
  | refine w_call ?_
  | refine w_nil ?_
  | refine w_cons ?_
  | refine w_if ?_
  | refine w_ret ?_
  | refine w_retN ?_
  | refine w_drop ?_
  | refine w_pass ?_
  | refine w_brk ?_
  | refine w_cnt ?_
  | refine w_test ?_
  | refine w_and ?_
  | refine w_or ?_
  | refine w_not ?_
  | refine w_yes ?_
  | refine w_andV ?_
  | refine w_orV ?_
  | refine w_notV ?_
  | refine w_ifE ?_
  | refine w_chain ?_
  | refine w_b ?_
  | refine w_i ?_
  | refine w_s ?_
  | refine w_def ?_
  | refine w_defF ?_
  | refine w_isi ?_
  | refine w_star ?_
  | refine w_noPart ?_
  | refine w_part ?_
  | refine w_sl ?_
  | refine w_rev ?_
  | refine w_tup ?_
  | refine w_par ?_
  | refine w_parV ?_
  | refine w_lst ?_
  | refine w_join ?_
  | refine w_dget ?_
  | refine w_din ?_
  | refine w_for ?_
  | refine w_rng1 ?_
  | refine w_rng2 ?_
  | refine w_itL ?_
  | refine w_itT ?_
  | refine w_itS ?_
  | refine w_lc ?_
  | refine w_lc2 ?_
  | refine w_dict ?_
  | refine w_pnil ?_
  | refine w_pcons ?_
  | refine w_gN ?_
  | refine w_gT rfl ?_
  | refine w_gsNil ?_
  | refine w_gsCons ?_
  | refine o_addI ?_
  | refine o_sub ?_
  | refine o_lt ?_
  | refine o_le ?_
  | refine o_gt ?_
  | refine o_ge ?_
  | refine o_eqI ?_
  | refine o_eqS ?_
  | refine o_neI ?_
  | refine o_neS ?_
  | refine o_isN ?_
  | refine o_notN ?_
  | refine o_slL ?_
  | refine o_slT ?_
  | refine o_revL ?_
  | refine o_revT ?_
  | refine o_neg ?_
  | refine o_lenL ?_
  | refine o_lenT ?_
  | refine o_int ?_
  | refine o_intB ?_
  | refine o_strS ?_
  | refine o_strB ?_
  | refine o_abs ?_
  | refine o_max2 ?_
  | refine o_min2 ?_
  | refine o_list ?_
  | refine o_listT ?_
  | refine o_tup ?_
  | refine o_tupT ?_
  | refine o_sum ?_
  | refine w_lrg ?_
  | refine w_dc ?_
  | refine w_cnt1 ?_
  | refine w_callK ?_
  | refine w_dput ?_
  | refine w_tm ?_
  | refine o_neBs ?_
  | refine o_eqTs ?_
  | refine w_enT ?_
  | refine w_enL ?_
  | refine o_maxDef ?_
  | refine w_tru ?_
  | refine o_eqP ?_
  | refine o_eqIs ?_
  | refine o_neIs ?_
  | refine w_trg ?_
  | refine w_setL ?_
  | refine iteT ?_
  | refine iteF ?_)
local macro_rules | `(tactic| walk_at "v1") => `(tactic| first
  | walk_at "vA"
  | ((with_reducible refine' w_ref ?h ?_); (case h => rfl))
  | ((with_reducible refine' w_varF ?h ?_); (case h => rfl))
  | ((with_reducible refine' w_varO ?h ?_); (case h => rfl))
  | ((with_reducible refine' w_movF ?h ?_); (case h => rfl))
  | ((with_reducible refine' w_movO ?h ?_); (case h => rfl))
  | ((with_reducible refine' w_r2 ?h ?h2 ?_); (case h => rfl); (case h2 => rfl))
  | ((with_reducible refine' w_r1 ?h ?_); (case h => rfl))
  | ((with_reducible refine' w_ra ?h ?_); (case h => rfl))
  | ((with_reducible refine' w_ra2 ?h ?h2 ?_); (case h => rfl); (case h2 => rfl))
  | ((with_reducible refine' w_trx ?h ?h2 ?_); (case h => rfl); (case h2 => rfl))
  | ((with_reducible refine' o_inT ?h ?h2 ?_); (case h => first | rfl | assumption); (case h2 => first | assumption | rfl))
  | ((with_reducible refine' o_ninT ?h ?h2 ?_); (case h => first | rfl | assumption); (case h2 => first | assumption | rfl))
  | ((with_reducible refine' w_tmA ?h ?c ?_); (case h => rfl); (case c => first | rfl | assumption))
  | ((with_reducible refine' w_tmB ?h ?c ?h2 ?_); (case h => rfl); (case c => first | rfl | assumption); (case h2 => rfl))
  | ((with_reducible refine' w_disp ?h ?l ?_); (case h => rfl); (case l => walk_at "vsz"))
  | ((with_reducible refine' w_keys ?h ?nd ?l ?_); (case h => rfl); (case nd => decide); (case l => exact Nat.le_of_ble_eq_true rfl))
  | ((with_reducible refine' w_va ?h ?_); (case h => rfl))
  | ((with_reducible refine' w_mu ?h ?h2 ?_); (case h => rfl); (case h2 => rfl))
  | ((with_reducible refine' w_bag ?h ?_); (case h => rfl))
  | ((with_reducible refine' w_mut ?h ?_); (case h => rfl))
  | ((with_reducible refine' w_ri ?h ?h2 ?_); (case h => rfl); (case h2 => first | exact isi_bool_bool | exact isi_bool_int | exact isi_bool_str | exact isi_bool_list | exact isi_bool_tuple | exact isi_int_bool | exact isi_int_int | exact isi_int_str | exact isi_int_list | exact isi_int_tuple | exact isi_str_bool | exact isi_str_int | exact isi_str_str | exact isi_str_list | exact isi_str_tuple | exact isi_list_bool | exact isi_list_int | exact isi_list_str | exact isi_list_list | exact isi_list_tuple | exact isi_tuple_bool | exact isi_tuple_int | exact isi_tuple_str | exact isi_tuple_list | exact isi_tuple_tuple))
  | ((with_reducible refine' o_draw ?h ?h2 (fun r r0 r1 => ?_)); (case h => first | decide | omega); (case h2 => first | decide | exact lt_big (by omega)))
  | ((with_reducible refine' o_addS ?h ?_); (case h => walk_at "vsz"))
  | ((with_reducible refine' o_addL ?h ?_); (case h => walk_at "vsz"))
  | ((with_reducible refine' o_addT ?h ?_); (case h => walk_at "vsz"))
  | ((with_reducible refine' o_mulS ?h ?_); (case h => exact ⟨by omega, by omega, by (simp only [len1, Str.length_append]; omega)⟩))
  | ((with_reducible refine' o_mulI ?h ?_); (case h => walk_at "vmul"))
  | ((with_reducible refine' o_mod ?h ?_); (case h => first | decide | omega))
  | ((with_reducible refine' o_div ?h ?_); (case h => walk_at "vdiv"))
  | ((with_reducible refine' o_ixL ?h ?_); (case h => walk_at "vat"))
  | ((with_reducible refine' o_ixT ?h ?_); (case h => walk_at "vat"))
  | ((with_reducible refine' o_lenS ?h ?_); (case h => walk_at "vsz"))
  | ((with_reducible refine' o_slS ?h ?_); (case h => walk_at "vsz"))
  | ((with_reducible refine' o_isB ?h ?_); (case h => rfl))
  | ((with_reducible refine' o_in ?h ?f ?fa ?_); (case h => rfl); (case f => rfl); (case fa => first | rfl | assumption))
  | ((with_reducible refine' o_in2F ?h ?f ?fa ?_); (case h => rfl); (case f => rfl); (case fa => first | rfl | assumption))
  | ((with_reducible refine' o_nin2F ?h ?f ?fa ?_); (case h => rfl); (case f => rfl); (case fa => first | rfl | assumption))
  | ((with_reducible refine' o_inP ?h ?h2 ?_); (case h => first | rfl | assumption); (case h2 => first | assumption | rfl))
  | ((with_reducible refine' o_ninP ?h ?h2 ?_); (case h => first | rfl | assumption); (case h2 => first | assumption | rfl))
  | ((with_reducible refine' o_nin ?h ?f ?fa ?_); (case h => rfl); (case f => rfl); (case fa => first | rfl | assumption))
  | ((with_reducible refine' m_app ?h ?_); (case h => walk_at "vsz"))
  | ((with_reducible refine' m_ext ?h ?_); (case h => walk_at "vsz"))
  | ((with_reducible refine' w_rj ?h ?h1 ?h2 ?_); (case h => rfl); (case h1 => omega); (case h2 => omega))
  | ((with_reducible refine' w_rd ?h ?h2 ?h3 ?h4 ?_); (case h => rfl); (case h2 => rfl); (case h3 => rfl); (case h4 => rfl))
  | ((with_reducible refine' w_rdi ?h ?h2 ?h3 ?_); (case h => rfl); (case h2 => rfl); (case h3 => rfl))
  | ((with_reducible refine' iteTr ?h ?_); (case h => first | rfl | decide))
  | ((with_reducible refine' iteFr ?h ?_); (case h => first | rfl | decide))
  | ((with_reducible refine' w_rk ?h ?h1 ?_); (case h => rfl); (case h1 => omega))
  | ((with_reducible refine' w_lcB ?h ?_); (case h => rfl))
  | ((with_reducible refine' w_lri ?h ?_); (case h => unfold RgOk; omega))
  | ((with_reducible refine' w_aug ?h ?_); (case h => rfl))
  | ((with_reducible refine' w_setA ?h ?_); (case h => rfl))
  | ((with_reducible refine' w_dputA ?h ?_); (case h => rfl))
  | ((with_reducible refine' m_ins ?h ?h0 ?h1 ?_); (case h => walk_at "vsz"); (case h0 => omega); (case h1 => omega))
  | ((with_reducible refine' w_setB ?h ?h2 ?_); (case h => rfl); (case h2 => assumption))
  | (with_reducible refine iteD (fun h => ?_) (fun h => ?_))
  | (with_reducible refine iteND (fun h => ?_) (fun h => ?_))
  | (with_reducible refine iteB (fun h => ?_) (fun h => ?_))
  | (refine ⟨_, rfl, ?_⟩)
  | fail
  )

abbrev Ed := Nat × Nat
def natI (ns : List Nat) : List Int := ns.map fun n : Nat => (n : Int)
abbrev natD (ns : List Nat) : List PyData := ns.map fun n : Nat => PyData.int n
def edD (p : Ed) : PyData := .tuple [.int p.1, .int p.2]
abbrev edsD (ps : List Ed) : List PyData := ps.map edD
def netD (lv : List Nat) (sg : List Ed) : PyData := .tuple [.tuple (natD lv), .tuple (edsD sg)]
theorem natD_len (ks : List Nat) : (natD ks).length = ks.length := List.length_map _
theorem natD_ints (ks : List Nat) : natD ks = (natI ks).map .int := by unfold natI; rw [List.map_map]; rfl
theorem natD_snoc (ks : List Nat) (j : Nat) : natD ks ++ [.int j] = natD (ks ++ [j]) := by unfold natD; rw [List.map_append]; rfl
theorem edsD_len (ks : List Ed) : (edsD ks).length = ks.length := List.length_map _
theorem edsD_snoc (ks : List Ed) (j : Ed) : edsD ks ++ [edD j] = edsD (ks ++ [j]) := by unfold edsD; rw [List.map_append]; rfl
theorem nat_inj : ∀ {a b : List Nat}, natI a = natI b → a = b
  | [], [], _ => rfl
  | x :: a, y :: b, h => by
    have h' : (x : Int) :: natI a = (y : Int) :: natI b := h
    injection h' with h1 h2
    rw [nat_inj h2, Int.ofNat.inj h1]
  | [], _ :: _, h => nomatch h
  | _ :: _, [], h => nomatch h
theorem at_natD {ks : List Nat} {j x : Nat} (h : ks[j]? = some x) : atI (natD ks) (j : Nat) = some (.int (x : Nat)) := atI_nat (by rw [List.getElem?_map, h]; rfl)
theorem at_natG {ks : List Nat} {j : Nat} (h : j < ks.length) : atI (natD ks) (j : Nat) = some (.int (ks.getD j 0 : Nat)) := at_natD (by rw [List.getD_eq_getElem?_getD, List.getElem?_eq_getElem h]; rfl)
theorem at_edD {ks : List Ed} {j : Nat} {x : Ed} (h : ks[j]? = some x) : atI (edsD ks) (j : Nat) = some (edD x) := atI_nat (by rw [List.getElem?_map, h]; rfl)
theorem natI_count (ks : List Nat) (r : Nat) : (natI ks).count (r : Int) = ks.count r := by
  unfold natI
  rw [List.count, List.countP_map, List.count]
  refine List.countP_congr fun x _ => ?_
  simp only [Function.comp, beq_iff_eq]
  omega
def lvAt (lv : List Nat) (p : Nat) : Nat := lv.getD p 0
/-- the places of a level, ascending -/
def placesAt (lv : List Nat) (r : Nat) : List Nat := (List.range lv.length).filter fun p => decide (lvAt lv p = r)
theorem mem_places {lv : List Nat} {r p : Nat} : p ∈ placesAt lv r ↔ p < lv.length ∧ lvAt lv p = r := by
  unfold placesAt
  rw [List.mem_filter, List.mem_range, decide_eq_true_eq]
theorem places_nodup (lv : List Nat) (r : Nat) : (placesAt lv r).Nodup := List.nodup_range.filter _
theorem places_len (lv : List Nat) (r : Nat) : (placesAt lv r).length ≤ lv.length := by
  have := List.length_filter_le (fun p => decide (lvAt lv p = r)) (List.range lv.length)
  rw [List.length_range] at this
  exact this
theorem lv_mem {lv : List Nat} {r : Nat} (h : r ∈ lv) : ∃ p, p ∈ placesAt lv r := by
  obtain ⟨p, hp, e⟩ := List.getElem_of_mem h
  exact ⟨p, mem_places.mpr ⟨hp, by unfold lvAt; rw [List.getD_eq_getElem?_getD, List.getElem?_eq_getElem hp]; exact e⟩⟩
/-- levels 0 .. depth - 1, each with a place -/
structure LvOk (lv : List Nat) (d : Nat) : Prop where
  lt : ∀ x ∈ lv, x < d
  all : ∀ r, r < d → r ∈ lv
  len : lv.length ≤ 60
  dl : d ≤ 40
def SgOk (lv : List Nat) (sg : List Ed) : Prop := ∀ p ∈ sg, p.1 < lv.length ∧ p.2 < lv.length ∧ lvAt lv p.2 = lvAt lv p.1 + 1
structure NetOk (lv : List Nat) (sg : List Ed) (d : Nat) : Prop where
  lo : LvOk lv d
  so : SgOk lv sg
  sl : sg.length ≤ 1000
theorem LvOk.perm {lv lv' : List Nat} {d : Nat} (h : LvOk lv d) (p : lv'.Perm lv) : LvOk lv' d := ⟨fun x hx => h.lt x (p.subset hx), fun r hr => p.symm.subset (h.all r hr), by rw [p.length_eq]; exact h.len, h.dl⟩
theorem LvOk.snoc {lv : List Nat} {d r : Nat} (h : LvOk lv d) (hr : r < d) (hl : lv.length < 60) : LvOk (lv ++ [r]) d := ⟨fun x hx => by
  rcases List.mem_append.mp hx with hx | hx
  · exact h.lt x hx
  · rw [List.mem_singleton.mp hx]; exact hr, fun r hr => List.mem_append_left _ (h.all r hr), by rw [List.length_append]; simp; omega, h.dl⟩
theorem LvOk.range (d : Nat) (h : d ≤ 40) : LvOk (List.range d) d := ⟨fun x hx => List.mem_range.mp hx, fun r hr => List.mem_range.mpr hr, by rw [List.length_range]; omega, h⟩
theorem lvAt_lt {lv : List Nat} {d p : Nat} (h : LvOk lv d) (hp : p < lv.length) : lvAt lv p < d := h.lt _ (by unfold lvAt; rw [List.getD_eq_getElem?_getD, List.getElem?_eq_getElem hp]; exact List.getElem_mem hp)
theorem at_lv {lv : List Nat} {p : Nat} (h : p < lv.length) : atI (natD lv) (p : Nat) = some (.int (lvAt lv p : Nat)) := at_natG h
abbrev sv_law_draw : VSp := spDrawV
section
variable {P : Program} {w : World} {K : PySem.W.Frag} {mg : Str → Option Value} {base : Heap}
theorem okv_law_draw (T : Txt K mg) : FnOk P w K mg base CX0 1 T.f_law_draw T.fd_law_draw ["bag", "many"] (spB K sv_law_draw) := (ok_law_draw T).imp fun _ _ _ _ h => spDraw_of h
end
def sv_law_pick : VSp := fun ds k => ∃ xs, ds = [.list xs] ∧ xs ≠ [] ∧ xs.length ≤ 100000 ∧ ∀ d ∈ xs, k (d, false)
abbrev g_law_pick : FS := (vRet (vOp fIx (vRef 1) (vOf (vBag sv_law_draw 0 (vCons (vOf (vCall fLen (vCons (vRef 1) vNil))) vNil)))))
theorem vf_law_pick (ds : List PyData) (k : KO) (h : sv_law_pick ds k) : ds.length = 1 ∧ g_law_pick (.bg :: (ds.map Sl.fz ++ List.replicate (2 - (ds.length + 1)) Sl.no)) { nx := fun _ => k (.none, false), rt := fun r _ => k r } := by
  obtain ⟨xs, rfl, hn, hl, hk⟩ := h
  refine ⟨rfl, ?_⟩
  have : 0 < xs.length := List.length_pos_iff.mpr hn
  show g_law_pick [.bg, .fz (.list xs)] _
  walk_at "v"
  rename_i r r0 r1
  obtain ⟨d, e, m⟩ := at_mem r0 r1
  exact o_ixL e (hk d m)
section
variable {P : Program} {w : World} {K : PySem.W.Frag} {mg : Str → Option Value} {base : Heap}
theorem okv_law_pick (T : Txt K mg) : FnOk P w K mg base CX0 2 T.f_law_pick T.fd_law_pick ["bag", "things"] (spB K sv_law_pick) := by
  refine T.F_law_pick.ok sc_law_pick (fun vs H Q E h => by obtain ⟨N, b, c, us, ds, k, rfl, _, _, _, _, ra, hs, _⟩ := h; rw [List.length_cons, ra.len, (vf_law_pick ds k hs).1]; rfl) (fun cdv A outer s H vs Q E hr h => ?_)
  exact ⟨_, (pss_one (ps_ret (pe_ix (dIx K) (pv 1) (pe_call (okv_law_draw T) (hr.mono (by omega)) (by rfl) T.g_law_draw T.F_law_draw.kp T.b_law_draw .nil pass0 (pa_cons (pv 0) (pa_cons (pe_callB (dLen K) (by rfl) T.n_len (by decide +kernel) (pa_cons (pv 1) pa_nil)) pa_nil))) (fun _ _ => rfl)))), run_B (ls_ret (le_op ol_ix lb_ref (lb_of (le_bag (la_cons (lb_of (le_cb ol_len (la_cons lb_ref la_nil))) la_nil))))) (fun ds k hs => ⟨by rw [(vf_law_pick ds k hs).1]; decide, (vf_law_pick ds k hs).2⟩) h⟩
end
def sv_law_shuffle : VSp := fun ds k => ∃ xs, ds = [.list xs] ∧ xs.length ≤ 1000 ∧ ∀ ys, ys.Perm xs → k (.list ys, true)
abbrev g_law_shuffle : FS := (vSeq (vAsg (vCall fList (vCons (vRef 1) vNil)) 2) (vSeq (vAsg (vLst vNil) 3) (vSeq (vFor (vRng1 (vCons (vOf (vCall fLen (vCons (vRef 1) vNil))) vNil)) (gN 4) (vDrop (vMut mAppend 3 (vCons (vOf (vMut mPopAt 2 (vCons (vOf (vBag sv_law_draw 0 (vCons (vOf (vCall fLen (vCons (vRef 2) vNil))) vNil))) vNil))) vNil)))) (vRet (vMove 3)))))
theorem vf_law_shuffle (ds : List PyData) (k : KO) (h : sv_law_shuffle ds k) : ds.length = 1 ∧ g_law_shuffle (.bg :: (ds.map Sl.fz ++ List.replicate (5 - (ds.length + 1)) Sl.no)) { nx := fun _ => k (.none, false), rt := fun r _ => k r } := by
  obtain ⟨xs, rfl, hl, hk⟩ := h
  refine ⟨rfl, ?_⟩
  show g_law_shuffle [.bg, .fz (.list xs), .no, .no, .no] _
  walk_at "v"
  refine for_inv (fun i s => ∃ rest mixed x, s = [.bg, .fz (.list xs), .ow (.list rest), .ow (.list mixed), x] ∧ mixed.length = i ∧ (mixed ++ rest).Perm xs) ⟨xs, [], _, rfl, rfl, List.Perm.refl _⟩ ?_ ?_
  · rintro i d s F hi ed ⟨rest, mixed, x, rfl, hm, hp⟩ hF
    rw [rg_len] at hi
    have hp' := hp.length_eq
    rw [List.length_append] at hp'
    have hr : 0 < rest.length := by omega
    show vDrop _ [.bg, .fz (.list xs), .ow (.list rest), .ow (.list mixed), .fz d] _
    walk_at "v"
    rename_i r r0 r1
    obtain ⟨j, y, h1, h2, h3⟩ := pop_at r0 r1
    refine ⟨by omega, by omega, j, y, h1, h2, ?_⟩
    walk_at "v"
    refine hF _ ⟨_, _, _, rfl, by rw [List.length_append, hm]; rfl, ?_⟩
    rw [List.append_assoc]
    exact (List.Perm.append_left mixed h3.symm).trans hp
  · rintro s ⟨rest, mixed, x, rfl, hm, hp⟩
    rw [rg_len] at hm
    have hp' := hp.length_eq
    rw [List.length_append] at hp'
    have : rest = [] := List.eq_nil_of_length_eq_zero (by omega)
    subst this
    walk_at "v"
    exact hk _ (by rw [List.append_nil] at hp; exact hp)
section
variable {P : Program} {w : World} {K : PySem.W.Frag} {mg : Str → Option Value} {base : Heap}
theorem okv_law_shuffle (T : Txt K mg) : FnOk P w K mg base CX0 2 T.f_law_shuffle T.fd_law_shuffle ["bag", "things"] (spB K sv_law_shuffle) := by
  refine T.F_law_shuffle.ok sc_law_shuffle (fun vs H Q E h => by obtain ⟨N, b, c, us, ds, k, rfl, _, _, _, _, ra, hs, _⟩ := h; rw [List.length_cons, ra.len, (vf_law_shuffle ds k hs).1]; rfl) (fun cdv A outer s H vs Q E hr h => ?_)
  exact ⟨_, (pss_cons (ps_set (i := 2) sc_law_shuffle.nd rfl (by first | exact Or.inl rfl | exact Or.inr rfl) (pe_callTy (dList K) (by rfl) T.n_list (by decide +kernel) (pa_cons (pv 1) pa_nil)))
   (pss_cons (ps_set (i := 3) sc_law_shuffle.nd rfl (by first | exact Or.inl rfl | exact Or.inr rfl) (pe_lst pa_nil))
   (pss_cons (ps_for PassesOwn.never rfl (pi_range1 rfl T.n_range (pa_cons (pe_callB (dLen K) (by rfl) T.n_len (by decide +kernel) (pa_cons (pv 1) pa_nil)) pa_nil)) (pg_name (i := 4) sc_law_shuffle.nd rfl (by first | exact Or.inl rfl | exact Or.inr rfl))
    (pss_one (ps_expr (pe_bm PySem.F.plainAttrs_list PySem.F.slot_list_append PySem.F.type_list_append mt_append (pv 3) (pa_cons (pe_bm PySem.F.plainAttrs_list PySem.F.slot_list_pop PySem.F.type_list_pop mt_popAt (pv 2) (pa_cons (pe_call (okv_law_draw T) (hr.mono (by omega)) (by rfl) T.g_law_draw T.F_law_draw.kp T.b_law_draw .nil pass0 (pa_cons (pv 0) (pa_cons (pe_callB (dLen K) (by rfl) T.n_len (by decide +kernel) (pa_cons (pv 2) pa_nil)) pa_nil))) pa_nil)) pa_nil)))))
   (pss_one (ps_ret (pv 3)))))), run_B (ls_seq (ls_asg (le_cb ol_list (la_cons lb_ref la_nil))) (ls_seq (ls_asg (le_lst la_nil)) (ls_seq (ls_for (li_rng1 (la_cons (lb_of (le_cb ol_len (la_cons lb_ref la_nil))) la_nil)) lg_name (ls_drop (le_mut ml_append (la_cons (lb_of (le_mut ml_popAt (la_cons (lb_of (le_bag (la_cons (lb_of (le_cb ol_len (la_cons lb_ref la_nil))) la_nil))) la_nil))) la_nil)))) (ls_ret le_move)))) (fun ds k hs => ⟨by rw [(vf_law_shuffle ds k hs).1]; decide, (vf_law_shuffle ds k hs).2⟩) h⟩
end
def sv_law_any_net : VSp := fun ds k => ds = [] ∧ ∀ lv sg d, NetOk lv sg d → k (netD lv sg, false)
abbrev g_law_any_net : FS := (vSeq (vAsg (vOp fIx (vOf (vLst (vCons (vOf (vC (.int 2))) (vCons (vOf (vC (.int 2))) (vCons (vOf (vC (.int 2))) (vCons (vOf (vC (.int 2))) (vCons (vOf (vC (.int 2))) (vCons (vOf (vC (.int 2))) (vCons (vOf (vC (.int 3))) (vCons (vOf (vC (.int 3))) (vCons (vOf (vC (.int 3))) (vCons (vOf (vC (.int 3))) (vCons (vOf (vC (.int 3))) (vCons (vOf (vC (.int 4))) (vCons (vOf (vC (.int 4))) (vCons (vOf (vC (.int 4))) (vCons (vOf (vC (.int 1))) (vCons (vOf (vC (.int 0))) vNil)))))))))))))))))) (vOf (vBag sv_law_draw 0 (vCons (vOf (vC (.int 16))) vNil)))) 1) (vSeq (vAsg (vC (.int 4)) 2) (vSeq (vAsg (vC (.int 7)) 3) (vCut (vIf (vTest (vOp fEq (vOf (vBag sv_law_draw 0 (vCons (vOf (vC (.int 8))) vNil))) (vOf (vC (.int 3))))) (vSeq (vAsg (vBag sv_law_draw 0 (vCons (vOf (vC (.int 37))) vNil)) 1) (vSeq (vAsg (vC (.int 7)) 2) (vAsg (vC (.int 13)) 3))) vPass) (vSeq (vAsg (vLRg1 (vVar 1)) 4) (vCut (vIf (vTest (vOp fGt (vRef 1) (vOf (vC (.int 0))))) (vFor (vRng1 (vCons (vOf (vBag sv_law_draw 0 (vCons (vOf (vCall fMin2 (vCons (vOf (vOp fSub (vOf (vC (.int 37))) (vRef 1))) (vCons (vOf (vOp fAdd (vOf (vOp fMul (vRef 1) (vOf (vOp fSub (vRef 2) (vOf (vC (.int 1))))))) (vOf (vC (.int 1))))) vNil)))) vNil))) vNil)) (gN 5) (vSeq (vAsg (vBag sv_law_draw 0 (vCons (vOf (vVar 1)) vNil)) 6) (vIf (vTest (vOp fLt (vOf (vCount (vRef 4) (vCons (vRef 6) vNil))) (vRef 2))) (vDrop (vMut mAppend 4 (vCons (vOf (vVar 6)) vNil))) vPass))) vPass) (vCut (vIf (vTest (vOp fEq (vOf (vBag sv_law_draw 0 (vCons (vOf (vC (.int 2))) vNil))) (vOf (vC (.int 0))))) (vAsg (vBag sv_law_shuffle 0 (vCons (vOf (vVar 4)) vNil)) 4) vPass) (vSeq (vAsg (vLst vNil) 7) (vSeq (vFor (vRng1 (vCons (vOf (vOp fSub (vRef 1) (vOf (vC (.int 1))))) vNil)) (gN 6) (vSeq (vAsg (vLc (vRng1 (vCons (vOf (vCall fLen (vCons (vRef 4) vNil))) vNil)) (gN 9) (vTest (vOp fEq (vOf (vOp fIx (vRef 4) (vRef 9))) (vRef 6))) (vVar 9) [9]) 8) (vSeq (vAsg (vLc (vRng1 (vCons (vOf (vCall fLen (vCons (vRef 4) vNil))) vNil)) (gN 9) (vTest (vOp fEq (vOf (vOp fIx (vRef 4) (vRef 9))) (vOf (vOp fAdd (vRef 6) (vOf (vC (.int 1))))))) (vVar 9) [9]) 10) (vFor (vRng1 (vCons (vOf (vBag sv_law_draw 0 (vCons (vOf (vOp fAdd (vRef 3) (vOf (vC (.int 1))))) vNil))) vNil)) (gN 5) (vDrop (vMut mAppend 7 (vCons (vOf (vTup (vCons (vOf (vBag sv_law_pick 0 (vCons (vOf (vVar 8)) vNil))) (vCons (vOf (vBag sv_law_pick 0 (vCons (vOf (vVar 10)) vNil))) vNil)))) vNil))))))) (vCut (vIf (vTest (vOp fEq (vOf (vBag sv_law_draw 0 (vCons (vOf (vC (.int 3))) vNil))) (vOf (vC (.int 0))))) (vAsg (vBag sv_law_shuffle 0 (vCons (vOf (vVar 7)) vNil)) 7) vPass) (vRet (vTup (vCons (vOf (vCall fTuple (vCons (vRef 4) vNil))) (vCons (vOf (vCall fTuple (vCons (vRef 7) vNil))) vNil))))))))))))))
theorem vf_law_any_net (ds : List PyData) (k : KO) (h : sv_law_any_net ds k) : ds.length = 0 ∧ g_law_any_net (.bg :: (ds.map Sl.fz ++ List.replicate (11 - (ds.length + 1)) Sl.no)) { nx := fun _ => k (.none, false), rt := fun r _ => k r } := by
  obtain ⟨rfl, hk⟩ := h
  refine ⟨rfl, ?_⟩
  show g_law_any_net [.bg, .no, .no, .no, .no, .no, .no, .no, .no, .no, .no] _
  walk_at "v"
  rename_i r r0 r1
  obtain ⟨d0, e0, m0⟩ := at_mem (xs := [PyData.int 2, .int 2, .int 2, .int 2, .int 2, .int 2, .int 3, .int 3, .int 3, .int 3, .int 3, .int 4, .int 4, .int 4, .int 1, .int 0]) r0 r1
  have : ∃ dp : Nat, d0 = .int dp ∧ dp ≤ 4 := by
    simp only [List.mem_cons, List.not_mem_nil, or_false] at m0
    have : d0 = .int (2 : Nat) ∨ d0 = .int (3 : Nat) ∨ d0 = .int (4 : Nat) ∨ d0 = .int (1 : Nat) ∨ d0 = .int (0 : Nat) := by
      rcases m0 with h | h | h | h | h | h | h | h | h | h | h | h | h | h | h | h <;> subst h <;> simp
    rcases this with h | h | h | h | h <;> exact ⟨_, h, by decide⟩
  obtain ⟨dp0, rfl, dp4⟩ := this
  clear m0
  refine o_ixL e0 ?_
  clear e0
  walk_at "v"
  refine w_cut (fun s => ∃ dp mo ti : Nat, s = [.bg, .fz (.int dp), .fz (.int mo), .fz (.int ti), .no, .no, .no, .no, .no, .no, .no] ∧ dp ≤ 36 ∧ 4 ≤ mo ∧ mo ≤ 7 ∧ ti ≤ 13) ?_ ?_
  · walk_at "v"
    · rename_i r r0 r1
      obtain ⟨a, rfl⟩ := Int.eq_ofNat_of_zero_le r0
      exact ⟨a, 7, 13, rfl, by omega, by decide, by decide, by decide⟩
    · exact ⟨dp0, 4, 7, rfl, by omega, by decide, by decide, by decide⟩
  rintro s ⟨dp, mo, ti, rfl, d36, mo4, mo7, ti13⟩
  clear dp4 dp0 r0 r1 r
  walk_at "v"
  rw [rg_nat2]
  refine w_cut (fun s => ∃ (lv : List Nat) (x5 x6 : Sl), s = [.bg, .fz (.int dp), .fz (.int mo), .fz (.int ti), .ow (.list (natD lv)), x5, x6, .no, .no, .no, .no] ∧ LvOk lv dp) ?_ ?_
  · walk_at "v"
    · rename_i h
      have m1 : 1 ≤ (if (dp : Int) * ((mo : Int) - 1) + 1 < 37 - (dp : Int) then (dp : Int) * ((mo : Int) - 1) + 1 else 37 - (dp : Int)) ∧ (if (dp : Int) * ((mo : Int) - 1) + 1 < 37 - (dp : Int) then (dp : Int) * ((mo : Int) - 1) + 1 else 37 - (dp : Int)) ≤ 37 - (dp : Int) := by
        have : 0 ≤ (dp : Int) * ((mo : Int) - 1) := Int.mul_nonneg (by omega) (by omega)
        split <;> omega
      generalize (if (dp : Int) * ((mo : Int) - 1) + 1 < 37 - (dp : Int) then (dp : Int) * ((mo : Int) - 1) + 1 else 37 - (dp : Int)) = bd at m1 ⊢
      obtain ⟨b1, b2⟩ := m1
      refine ⟨by omega, lt_big (by omega), fun c c0 c1 => ?_⟩
      walk_at "v"
      refine for_inv (fun i s => ∃ (lv : List Nat) (x5 x6 : Sl), s = [.bg, .fz (.int dp), .fz (.int mo), .fz (.int ti), .ow (.list (natD lv)), x5, x6, .no, .no, .no, .no] ∧ LvOk lv dp ∧ lv.length ≤ dp + i) ⟨List.range dp, _, _, rfl, LvOk.range dp (by omega), by rw [List.length_range]; omega⟩ ?_ ?_
      · rintro i d s F hi ed ⟨lv, x5, x6, rfl, ok, ll⟩ hF
        rw [rg_len] at hi
        have nl := natD_len lv
        show vSeq _ _ [.bg, .fz (.int dp), .fz (.int mo), .fz (.int ti), .ow (.list (natD lv)), .fz d, x6, .no, .no, .no, .no] _
        walk_at "v"
        rename_i q q0 q1
        obtain ⟨a, rfl⟩ := Int.eq_ofNat_of_zero_le q0
        refine ⟨⟨natI lv, by rw [natD_ints]; rfl⟩, ?_⟩
        walk_at "v"
        refine ⟨natI lv, a, by rw [natD_ints]; rfl, rfl, ?_⟩
        walk_at "v"
        · rw [natD_snoc]
          exact hF _ ⟨_, _, _, rfl, ok.snoc (by omega) (by omega), by rw [List.length_append]; simp; omega⟩
        · exact hF _ ⟨_, _, _, rfl, ok, by omega⟩
      · rintro s ⟨lv, x5, x6, rfl, ok, ll⟩
        exact ⟨lv, _, _, rfl, ok⟩
    · exact ⟨List.range dp, _, _, rfl, LvOk.range dp (by omega)⟩
  rintro s ⟨lv0, x5, x6, rfl, ok0⟩
  refine w_cut (fun s => ∃ (lv : List Nat), s = [.bg, .fz (.int dp), .fz (.int mo), .fz (.int ti), .ow (.list (natD lv)), x5, x6, .no, .no, .no, .no] ∧ LvOk lv dp) ?_ ?_
  · walk_at "v"
    · refine ⟨by rw [natD_len]; have := ok0.len; omega, fun ys hp => ?_⟩
      obtain ⟨lv, rfl, p⟩ := perm_map (fun n : Nat => PyData.int n) hp
      walk_at "v"
      exact ok0.perm p
    · exact ok0
  rintro s ⟨lv, rfl, ok⟩
  clear ok0 lv0
  have nl := natD_len lv
  have l60 := ok.len
  walk_at "v"
  refine for_inv (fun i s => ∃ (sg : List Ed) (x5 x6 x8 x9 x10 : Sl), s = [.bg, .fz (.int dp), .fz (.int mo), .fz (.int ti), .ow (.list (natD lv)), x5, x6, .ow (.list (edsD sg)), x8, x9, x10] ∧ SgOk lv sg ∧ sg.length ≤ 13 * i) ⟨[], _, _, _, _, _, rfl, (fun _ h => nomatch h), Nat.zero_le _⟩ ?_ ?_
  · rintro i d s F hi ed ⟨sg, x5, x6, x8, x9, x10, rfl, so, sl⟩ hF
    rw [rg_len] at hi
    have ed := rg_get ed
    rw [show (0 : Int) + (i : Int) = (i : Nat) from Int.zero_add _] at ed
    subst ed
    show vSeq _ _ [.bg, .fz (.int dp), .fz (.int mo), .fz (.int ti), .ow (.list (natD lv)), x5, .fz (.int i), .ow (.list (edsD sg)), x8, x9, x10] _
    walk_at "v"
    refine lc_map (List.range lv.length) (fun n : Nat => PyData.int n) (fun p => decide (lvAt lv p = i)) (fun n : Nat => PyData.int n) ?_ ?_ (fun p hp T T0 hT hT0 => ?_) (fun s' w => ?_)
    · rw [natD_len]; exact rg_nat2 lv.length
    · rw [List.length_range]; omega
    · have a1 := at_lv (List.mem_range.mp hp)
      show gN 9 _ _ _
      walk_at "v"
      · rename_i h
        exact hT (decide_eq_true (by omega)) _ rfl
      · rename_i h
        exact hT0 (decide_eq_false (by omega)) _ rfl
    rw [EV.backV_same w]
    walk_at "v"
    refine lc_map (List.range lv.length) (fun n : Nat => PyData.int n) (fun p => decide (lvAt lv p = i + 1)) (fun n : Nat => PyData.int n) ?_ ?_ (fun p hp T T0 hT hT0 => ?_) (fun s' w => ?_)
    · rw [natD_len]; exact rg_nat2 lv.length
    · rw [List.length_range]; omega
    · have a1 := at_lv (List.mem_range.mp hp)
      show gN 9 _ _ _
      walk_at "v"
      · rename_i h
        exact hT (decide_eq_true (by omega)) _ rfl
      · rename_i h
        exact hT0 (decide_eq_false (by omega)) _ rfl
    rw [EV.backV_same w]
    walk_at "v"
    rename_i c c0 c1
    have pa : placesAt lv i ≠ [] := by obtain ⟨p, hp⟩ := lv_mem (ok.all i (by omega)); exact fun e => nomatch e ▸ hp
    have pb : placesAt lv (i + 1) ≠ [] := by obtain ⟨p, hp⟩ := lv_mem (ok.all (i + 1) (by omega)); exact fun e => nomatch e ▸ hp
    have la := places_len lv i
    have lb := places_len lv (i + 1)
    refine for_inv (fun j s => ∃ (sg : List Ed) (x5 x8 x10 : Sl), s = [.bg, .fz (.int dp), .fz (.int mo), .fz (.int ti), .ow (.list (natD lv)), x5, .fz (.int i), .ow (.list (edsD sg)), x8, _, x10] ∧ (x8 = .ow (.list (natD (placesAt lv i))) ∨ x8 = .fz (.list (natD (placesAt lv i)))) ∧ (x10 = .ow (.list (natD (placesAt lv (i + 1)))) ∨ x10 = .fz (.list (natD (placesAt lv (i + 1))))) ∧ SgOk lv sg ∧ sg.length ≤ 13 * i + j) ⟨sg, _, _, _, rfl, .inl rfl, .inl rfl, so, by omega⟩ ?_ ?_
    · rintro j d s F hj ed ⟨sg, x5, x8, x10, rfl, h8, h10, so, sl⟩ hF
      rw [rg_len] at hj
      have el := edsD_len sg
      show vDrop _ [.bg, .fz (.int dp), .fz (.int mo), .fz (.int ti), .ow (.list (natD lv)), .fz d, .fz (.int i), .ow (.list (edsD sg)), x8, _, x10] _
      have done : ∀ a ∈ placesAt lv i, ∀ b ∈ placesAt lv (i + 1), F [.bg, .fz (.int dp), .fz (.int mo), .fz (.int ti), .ow (.list (natD lv)), .fz d, .fz (.int i), .ow (.list (edsD sg ++ [.tuple [.int a, .int b]])), .fz (.list (natD (placesAt lv i))), _, .fz (.list (natD (placesAt lv (i + 1))))] := fun a ha b hb => by
        refine hF _ ⟨sg ++ [(a, b)], _, _, _, by rw [← edsD_snoc]; rfl, .inr rfl, .inr rfl, fun p hp => ?_, by rw [List.length_append]; simp; omega⟩
        rcases List.mem_append.mp hp with hp | hp
        · exact so p hp
        · rw [List.mem_singleton.mp hp]
          obtain ⟨h1, h2⟩ := mem_places.mp ha
          obtain ⟨h3, h4⟩ := mem_places.mp hb
          exact ⟨h1, h3, by show lvAt lv b = lvAt lv a + 1; omega⟩
      rcases h8 with rfl | rfl <;> rcases h10 with rfl | rfl
      all_goals
        walk_at "v"
        refine ⟨by simpa using pa, by rw [natD_len]; omega, fun a ha => ?_⟩
        obtain ⟨a, ha2, rfl⟩ := List.mem_map.mp ha
        walk_at "v"
        refine ⟨by simpa using pb, by rw [natD_len]; omega, fun b hb => ?_⟩
        obtain ⟨b, hb2, rfl⟩ := List.mem_map.mp hb
        walk_at "v"
        exact done a ha2 b hb2
    · rintro s ⟨sg, x5, x8, x10, rfl, h8, h10, so, sl⟩
      rw [rg_len] at sl
      exact hF _ ⟨sg, _, _, _, _, _, rfl, so, by omega⟩
  rintro s ⟨sg, x5, x6, x8, x9, x10, rfl, so, sl⟩
  rw [rg_len] at sl
  refine w_cut (fun s => ∃ (sg : List Ed), s = [.bg, .fz (.int dp), .fz (.int mo), .fz (.int ti), .ow (.list (natD lv)), x5, x6, .ow (.list (edsD sg)), x8, x9, x10] ∧ SgOk lv sg ∧ sg.length ≤ 1000) ?_ ?_
  · walk_at "v"
    · refine ⟨by rw [edsD_len]; omega, fun ys hp => ?_⟩
      obtain ⟨sg2, rfl, p⟩ := perm_map edD hp
      walk_at "v"
      exact ⟨fun q hq => so q (p.subset hq), by rw [p.length_eq]; omega⟩
    · exact ⟨so, by omega⟩
  rintro s ⟨sg, rfl, so, sl⟩
  walk_at "v"
  exact hk lv sg dp ⟨ok, so, sl⟩
section
variable {P : Program} {w : World} {K : PySem.W.Frag} {mg : Str → Option Value} {base : Heap}
theorem okv_law_any_net (T : Txt K mg) : FnOk P w K mg base CX0 3 T.f_law_any_net T.fd_law_any_net ["bag"] (spB K sv_law_any_net) := by
  refine T.F_law_any_net.ok sc_law_any_net (fun vs H Q E h => by obtain ⟨N, b, c, us, ds, k, rfl, _, _, _, _, ra, hs, _⟩ := h; rw [List.length_cons, ra.len, (vf_law_any_net ds k hs).1]; rfl) (fun cdv A outer s H vs Q E hr h => ?_)
  exact ⟨_, (pss_cons (ps_set (i := 1) sc_law_any_net.nd rfl (by first | exact Or.inl rfl | exact Or.inr rfl) (pe_ix (dIx K) (pe_lst (pa_cons pe_int (pa_cons pe_int (pa_cons pe_int (pa_cons pe_int (pa_cons pe_int (pa_cons pe_int (pa_cons pe_int (pa_cons pe_int (pa_cons pe_int (pa_cons pe_int (pa_cons pe_int (pa_cons pe_int (pa_cons pe_int (pa_cons pe_int (pa_cons pe_int (pa_cons pe_int pa_nil))))))))))))))))) (pe_call (okv_law_draw T) (hr.mono (by omega)) (by rfl) T.g_law_draw T.F_law_draw.kp T.b_law_draw .nil pass0 (pa_cons (pv 0) (pa_cons pe_int pa_nil))) (fun _ _ => rfl)))
   (pss_cons (ps_set (i := 2) sc_law_any_net.nd rfl (by first | exact Or.inl rfl | exact Or.inr rfl) pe_int)
   (pss_cons (ps_set (i := 3) sc_law_any_net.nd rfl (by first | exact Or.inl rfl | exact Or.inr rfl) pe_int)
   (C8.pss_cut (ps_if (pt_cmpR (dEqV K hr.units) (pe_call (okv_law_draw T) (hr.mono (by omega)) (by rfl) T.g_law_draw T.F_law_draw.kp T.b_law_draw .nil pass0 (pa_cons (pv 0) (pa_cons pe_int pa_nil))) pe_int (nomark _))
    (pss_cons (ps_set (i := 1) sc_law_any_net.nd rfl (by first | exact Or.inl rfl | exact Or.inr rfl) (pe_call (okv_law_draw T) (hr.mono (by omega)) (by rfl) T.g_law_draw T.F_law_draw.kp T.b_law_draw .nil pass0 (pa_cons (pv 0) (pa_cons pe_int pa_nil))))
    (pss_cons (ps_set (i := 2) sc_law_any_net.nd rfl (by first | exact Or.inl rfl | exact Or.inr rfl) pe_int)
    (pss_one (ps_set (i := 3) sc_law_any_net.nd rfl (by first | exact Or.inl rfl | exact Or.inr rfl) pe_int))))
    pss_nil)
   (pss_cons (ps_set (i := 4) sc_law_any_net.nd rfl (by first | exact Or.inl rfl | exact Or.inr rfl) (pe_listRg rfl (by rfl) T.n_list (prg_1 (by rfl) T.n_range (pv 1))))
   (C8.pss_cut (ps_if (pt_cmpR dGt (pv 1) pe_int (nomark _))
    (pss_one (ps_for PassesOwn.never rfl (pi_range1 rfl T.n_range (pa_cons (pe_call (okv_law_draw T) (hr.mono (by omega)) (by rfl) T.g_law_draw T.F_law_draw.kp T.b_law_draw .nil pass0 (pa_cons (pv 0) (pa_cons (pe_callB (dMin2 rfl) (by rfl) T.n_min (by decide +kernel) (pa_cons (pe_op dSub pe_int (pv 1)) (pa_cons (pe_op (dAddVZ K) (pe_op dMulV (pv 1) (pe_op dSub (pv 2) pe_int)) pe_int) pa_nil))) pa_nil))) pa_nil)) (pg_name (i := 5) sc_law_any_net.nd rfl (by first | exact Or.inl rfl | exact Or.inr rfl))
     (pss_cons (ps_set (i := 6) sc_law_any_net.nd rfl (by first | exact Or.inl rfl | exact Or.inr rfl) (pe_call (okv_law_draw T) (hr.mono (by omega)) (by rfl) T.g_law_draw T.F_law_draw.kp T.b_law_draw .nil pass0 (pa_cons (pv 0) (pa_cons (pv 1) pa_nil))))
     (pss_one (ps_if (pt_cmpR dLt (pe_bm PySem.F.plainAttrs_list PySem.F.slot_list_count PySem.F.type_list_count mt_lcount (pv 4) (pa_cons (pv 6) pa_nil)) (pv 2) (nomark _))
      (pss_one (ps_expr (pe_bm PySem.F.plainAttrs_list PySem.F.slot_list_append PySem.F.type_list_append mt_append (pv 4) (pa_cons (pv 6) pa_nil))))
      pss_nil)))))
    pss_nil)
   (C8.pss_cut (ps_if (pt_cmpR (dEqV K hr.units) (pe_call (okv_law_draw T) (hr.mono (by omega)) (by rfl) T.g_law_draw T.F_law_draw.kp T.b_law_draw .nil pass0 (pa_cons (pv 0) (pa_cons pe_int pa_nil))) pe_int (nomark _))
    (pss_one (ps_set (i := 4) sc_law_any_net.nd rfl (by first | exact Or.inl rfl | exact Or.inr rfl) (pe_call (okv_law_shuffle T) (hr.mono (by omega)) (by rfl) T.g_law_shuffle T.F_law_shuffle.kp T.b_law_shuffle .nil pass0 (pa_cons (pv 0) (pa_cons (pv 4) pa_nil)))))
    pss_nil)
   (pss_cons (ps_set (i := 7) sc_law_any_net.nd rfl (by first | exact Or.inl rfl | exact Or.inr rfl) (pe_lst pa_nil))
   (pss_cons (ps_for PassesOwn.never rfl (pi_range1 rfl T.n_range (pa_cons (pe_op dSub (pv 1) pe_int) pa_nil)) (pg_name (i := 6) sc_law_any_net.nd rfl (by first | exact Or.inl rfl | exact Or.inr rfl))
    (pss_cons (ps_setLc (i := 8) (own := [("p", 9)]) (g := gName 9) rfl sc_law_any_net.nd rfl rfl (sw_true rfl rfl rfl (by decide +kernel)) (pi_range1 rfl T.n_range (pa_cons (pe_callB (dLen K) (by rfl) T.n_len (by decide +kernel) (pa_cons (pv 4) pa_nil)) pa_nil)) (blkOk_by (own := [("p", 9)]) (N := ["bag", "depth", "most", "ties", "levels", "k", "r", "segments", "above", "p", "below"]) (sc := defScope s_law_any_net) (by decide +kernel)) (fun _ _ _ _ _ => (pg_name (i := 9) sc_law_any_net.nd rfl (by first | exact Or.inl rfl | exact Or.inr rfl))) (fun _ _ _ _ _ => (pts_one (pt_cmpR (dEqV K hr.units) (pe_ix (dIx K) (pv 4) (pv 9) (fun _ _ => rfl)) (pv 6) (nomark _)))) (fun _ _ _ _ _ => (pv 9)))
    (pss_cons (ps_setLc (i := 10) (own := [("p", 9)]) (g := gName 9) rfl sc_law_any_net.nd rfl rfl (sw_true rfl rfl rfl (by decide +kernel)) (pi_range1 rfl T.n_range (pa_cons (pe_callB (dLen K) (by rfl) T.n_len (by decide +kernel) (pa_cons (pv 4) pa_nil)) pa_nil)) (blkOk_by (own := [("p", 9)]) (N := ["bag", "depth", "most", "ties", "levels", "k", "r", "segments", "above", "p", "below"]) (sc := defScope s_law_any_net) (by decide +kernel)) (fun _ _ _ _ _ => (pg_name (i := 9) sc_law_any_net.nd rfl (by first | exact Or.inl rfl | exact Or.inr rfl))) (fun _ _ _ _ _ => (pts_one (pt_cmpR (dEqV K hr.units) (pe_ix (dIx K) (pv 4) (pv 9) (fun _ _ => rfl)) (pe_op (dAddVZ K) (pv 6) pe_int) (nomark _)))) (fun _ _ _ _ _ => (pv 9)))
    (pss_one (ps_for PassesOwn.never rfl (pi_range1 rfl T.n_range (pa_cons (pe_call (okv_law_draw T) (hr.mono (by omega)) (by rfl) T.g_law_draw T.F_law_draw.kp T.b_law_draw .nil pass0 (pa_cons (pv 0) (pa_cons (pe_op (dAddVZ K) (pv 3) pe_int) pa_nil))) pa_nil)) (pg_name (i := 5) sc_law_any_net.nd rfl (by first | exact Or.inl rfl | exact Or.inr rfl))
     (pss_one (ps_expr (pe_bm PySem.F.plainAttrs_list PySem.F.slot_list_append PySem.F.type_list_append mt_append (pv 7) (pa_cons (pe_tupZ (pa_cons (pe_call (okv_law_pick T) (hr.mono (by omega)) (by rfl) T.g_law_pick T.F_law_pick.kp T.b_law_pick .nil pass0 (pa_cons (pv 0) (pa_cons (pv 8) pa_nil))) (pa_cons (pe_call (okv_law_pick T) (hr.mono (by omega)) (by rfl) T.g_law_pick T.F_law_pick.kp T.b_law_pick .nil pass0 (pa_cons (pv 0) (pa_cons (pv 10) pa_nil))) pa_nil))) pa_nil)))))))))
   (C8.pss_cut (ps_if (pt_cmpR (dEqV K hr.units) (pe_call (okv_law_draw T) (hr.mono (by omega)) (by rfl) T.g_law_draw T.F_law_draw.kp T.b_law_draw .nil pass0 (pa_cons (pv 0) (pa_cons pe_int pa_nil))) pe_int (nomark _))
    (pss_one (ps_set (i := 7) sc_law_any_net.nd rfl (by first | exact Or.inl rfl | exact Or.inr rfl) (pe_call (okv_law_shuffle T) (hr.mono (by omega)) (by rfl) T.g_law_shuffle T.F_law_shuffle.kp T.b_law_shuffle .nil pass0 (pa_cons (pv 0) (pa_cons (pv 7) pa_nil)))))
    pss_nil)
   (pss_one (ps_ret (pe_tupZ (pa_cons (pe_callTy (dTupleZ K) (by rfl) T.n_tuple (by decide +kernel) (pa_cons (pv 4) pa_nil)) (pa_cons (pe_callTy (dTupleZ K) (by rfl) T.n_tuple (by decide +kernel) (pa_cons (pv 7) pa_nil)) pa_nil))))))))))))))), run_B (ls_seq (ls_asg (le_op ol_ix (lb_of (le_lst (la_cons (lb_of (le_c fun _ _ => .int _)) (la_cons (lb_of (le_c fun _ _ => .int _)) (la_cons (lb_of (le_c fun _ _ => .int _)) (la_cons (lb_of (le_c fun _ _ => .int _)) (la_cons (lb_of (le_c fun _ _ => .int _)) (la_cons (lb_of (le_c fun _ _ => .int _)) (la_cons (lb_of (le_c fun _ _ => .int _)) (la_cons (lb_of (le_c fun _ _ => .int _)) (la_cons (lb_of (le_c fun _ _ => .int _)) (la_cons (lb_of (le_c fun _ _ => .int _)) (la_cons (lb_of (le_c fun _ _ => .int _)) (la_cons (lb_of (le_c fun _ _ => .int _)) (la_cons (lb_of (le_c fun _ _ => .int _)) (la_cons (lb_of (le_c fun _ _ => .int _)) (la_cons (lb_of (le_c fun _ _ => .int _)) (la_cons (lb_of (le_c fun _ _ => .int _)) la_nil)))))))))))))))))) (lb_of (le_bag (la_cons (lb_of (le_c fun _ _ => .int _)) la_nil))))) (ls_seq (ls_asg (le_c fun _ _ => .int _)) (ls_seq (ls_asg (le_c fun _ _ => .int _)) (ls_cut (ls_if (lt_test (le_op ol_eq (lb_of (le_bag (la_cons (lb_of (le_c fun _ _ => .int _)) la_nil))) (lb_of (le_c fun _ _ => .int _)))) (ls_seq (ls_asg (le_bag (la_cons (lb_of (le_c fun _ _ => .int _)) la_nil))) (ls_seq (ls_asg (le_c fun _ _ => .int _)) (ls_asg (le_c fun _ _ => .int _)))) ls_pass) (ls_seq (ls_asg (le_lrg1 le_var)) (ls_cut (ls_if (lt_test (le_op ol_gt lb_ref (lb_of (le_c fun _ _ => .int _)))) (ls_for (li_rng1 (la_cons (lb_of (le_bag (la_cons (lb_of (le_cb ol_min2 (la_cons (lb_of (le_op ol_sub (lb_of (le_c fun _ _ => .int _)) lb_ref)) (la_cons (lb_of (le_op ol_add (lb_of (le_op ol_mul lb_ref (lb_of (le_op ol_sub lb_ref (lb_of (le_c fun _ _ => .int _)))))) (lb_of (le_c fun _ _ => .int _)))) la_nil)))) la_nil))) la_nil)) lg_name (ls_seq (ls_asg (le_bag (la_cons (lb_of le_var) la_nil))) (ls_if (lt_test (le_op ol_lt (lb_of (le_cnt lb_ref (la_cons lb_ref la_nil))) lb_ref)) (ls_drop (le_mut ml_append (la_cons (lb_of le_var) la_nil))) ls_pass))) ls_pass) (ls_cut (ls_if (lt_test (le_op ol_eq (lb_of (le_bag (la_cons (lb_of (le_c fun _ _ => .int _)) la_nil))) (lb_of (le_c fun _ _ => .int _)))) (ls_asg (le_bag (la_cons (lb_of le_var) la_nil))) ls_pass) (ls_seq (ls_asg (le_lst la_nil)) (ls_seq (ls_for (li_rng1 (la_cons (lb_of (le_op ol_sub lb_ref (lb_of (le_c fun _ _ => .int _)))) la_nil)) lg_name (ls_seq (ls_asg (le_lc (li_rng1 (la_cons (lb_of (le_cb ol_len (la_cons lb_ref la_nil))) la_nil)) lg_name (gin_name (by decide)) (lt_test (le_op ol_eq (lb_of (le_op ol_ix lb_ref lb_ref)) lb_ref)) le_var)) (ls_seq (ls_asg (le_lc (li_rng1 (la_cons (lb_of (le_cb ol_len (la_cons lb_ref la_nil))) la_nil)) lg_name (gin_name (by decide)) (lt_test (le_op ol_eq (lb_of (le_op ol_ix lb_ref lb_ref)) (lb_of (le_op ol_add lb_ref (lb_of (le_c fun _ _ => .int _)))))) le_var)) (ls_for (li_rng1 (la_cons (lb_of (le_bag (la_cons (lb_of (le_op ol_add lb_ref (lb_of (le_c fun _ _ => .int _)))) la_nil))) la_nil)) lg_name (ls_drop (le_mut ml_append (la_cons (lb_of (le_tup (la_cons (lb_of (le_bag (la_cons (lb_of le_var) la_nil))) (la_cons (lb_of (le_bag (la_cons (lb_of le_var) la_nil))) la_nil)))) la_nil))))))) (ls_cut (ls_if (lt_test (le_op ol_eq (lb_of (le_bag (la_cons (lb_of (le_c fun _ _ => .int _)) la_nil))) (lb_of (le_c fun _ _ => .int _)))) (ls_asg (le_bag (la_cons (lb_of le_var) la_nil))) ls_pass) (ls_ret (le_tup (la_cons (lb_of (le_cb ol_tuple (la_cons lb_ref la_nil))) (la_cons (lb_of (le_cb ol_tuple (la_cons lb_ref la_nil))) la_nil)))))))))))))) (fun ds k hs => ⟨by rw [(vf_law_any_net ds k hs).1]; decide, (vf_law_any_net ds k hs).2⟩) h⟩
end
end K63
namespace K63
open PySem PySem.Spec PyProof.Rows L2 D0 EV
/- walking through a body's meaning -/
local macro_rules | `(tactic| walk_at "vsz") => `(tactic| first | assumption | decide | omega | exact Nat.le_of_ble_eq_true rfl | (simp only [List.length_map, List.length_append, List.length_cons, List.length_nil, List.length_range, List.length_replicate, List.length_reverse, rg_len]; first | decide | omega) | exact sz4 (by omega) | exact sz4' (by omega) | (simp only [List.length_map, List.length_append, List.length_cons, List.length_nil, List.length_range, List.length_replicate, List.length_reverse, rg_len, Str.length_append, len1, strD_len]; first | exact sz4 (by omega) | exact sz4' (by omega)))
local macro_rules | `(tactic| walk_at "vat") => `(tactic| first | assumption | rfl | exact atI_nat (j := 0) rfl | exact atI_nat (j := 1) rfl | exact atI_nat (j := 2) rfl)
local macro_rules | `(tactic| walk_at "vmul") => `(tactic| first | exact .inr ⟨by decide, by decide⟩ | exact .inl ⟨by omega, by omega⟩ | exact .inr ⟨by omega, by omega⟩)
local macro_rules | `(tactic| walk_at "vdiv") => `(tactic| with_reducible first | exact div97 | exact div3 | exact div2 | exact div_m (by omega) (by omega))
local macro_rules | `(tactic| walk_at "v") => `(tactic| repeat' walk_at "v1")
local macro_rules | `(tactic| walk_at "vA") => `(tactic| with_reducible first
  | refine w_seq ?_
  | refine w_asg ?_
  | refine w_asgG ?_
  | refine w_of ?_
  | refine w_c ?_
  | refine w_op ?_
  | refine w_un ?_
  | refine w_call ?_
  | refine w_nil ?_
  | refine w_cons ?_
  | refine w_if ?_
  | refine w_ret ?_
  | refine w_retN ?_
  | refine w_drop ?_
  | refine w_pass ?_
  | refine w_brk ?_
  | refine w_cnt ?_
  | refine w_test ?_
  | refine w_and ?_
  | refine w_or ?_
  | refine w_not ?_
  | refine w_yes ?_
  | refine w_andV ?_
  | refine w_orV ?_
  | refine w_notV ?_
  | refine w_ifE ?_
  | refine w_chain ?_
  | refine w_b ?_
  | refine w_i ?_
  | refine w_s ?_
  | refine w_def ?_
  | refine w_defF ?_
  | refine w_isi ?_
  | refine w_star ?_
  | refine w_noPart ?_
  | refine w_part ?_
  | refine w_sl ?_
  | refine w_rev ?_
  | refine w_tup ?_
  | refine w_par ?_
  | refine w_parV ?_
  | refine w_lst ?_
  | refine w_join ?_
  | refine w_dget ?_
  | refine w_din ?_
  | refine w_for ?_
  | refine w_rng1 ?_
  | refine w_rng2 ?_
  | refine w_itL ?_
  | refine w_itT ?_
  | refine w_itS ?_
  | refine w_lc ?_
  | refine w_lc2 ?_
  | refine w_dict ?_
  | refine w_pnil ?_
  | refine w_pcons ?_
  | refine w_gN ?_
  | refine w_gT rfl ?_
  | refine w_gsNil ?_
  | refine w_gsCons ?_
  | refine o_addI ?_
  | refine o_sub ?_
  | refine o_lt ?_
  | refine o_le ?_
  | refine o_gt ?_
  | refine o_ge ?_
  | refine o_eqI ?_
  | refine o_eqS ?_
  | refine o_neI ?_
  | refine o_neS ?_
  | refine o_isN ?_
  | refine o_notN ?_
  | refine o_slL ?_
  | refine o_slT ?_
  | refine o_revL ?_
  | refine o_revT ?_
  | refine o_neg ?_
  | refine o_lenL ?_
  | refine o_lenT ?_
  | refine o_int ?_
  | refine o_intB ?_
  | refine o_strS ?_
  | refine o_strB ?_
  | refine o_abs ?_
  | refine o_max2 ?_
  | refine o_min2 ?_
  | refine o_list ?_
  | refine o_listT ?_
  | refine o_tup ?_
  | refine o_tupT ?_
  | refine o_sum ?_
  | refine w_lrg ?_
  | refine w_dc ?_
  | refine w_cnt1 ?_
  | refine w_callK ?_
  | refine w_dput ?_
  | refine w_tm ?_
  | refine o_neBs ?_
  | refine o_eqTs ?_
  | refine w_enT ?_
  | refine w_enL ?_
  | refine o_maxDef ?_
  | refine w_tru ?_
  | refine o_eqP ?_
  | refine o_eqIs ?_
  | refine o_neIs ?_
  | refine w_trg ?_
  | refine w_setL ?_
  | refine iteT ?_
  | refine iteF ?_)
local macro_rules | `(tactic| walk_at "v1") => `(tactic| first
  | walk_at "vA"
  | ((with_reducible refine' w_ref ?h ?_); (case h => rfl))
  | ((with_reducible refine' w_varF ?h ?_); (case h => rfl))
  | ((with_reducible refine' w_varO ?h ?_); (case h => rfl))
  | ((with_reducible refine' w_movF ?h ?_); (case h => rfl))
  | ((with_reducible refine' w_movO ?h ?_); (case h => rfl))
  | ((with_reducible refine' w_r2 ?h ?h2 ?_); (case h => rfl); (case h2 => rfl))
  | ((with_reducible refine' w_r1 ?h ?_); (case h => rfl))
  | ((with_reducible refine' w_ra ?h ?_); (case h => rfl))
  | ((with_reducible refine' w_ra2 ?h ?h2 ?_); (case h => rfl); (case h2 => rfl))
  | ((with_reducible refine' w_trx ?h ?h2 ?_); (case h => rfl); (case h2 => rfl))
  | ((with_reducible refine' o_inT ?h ?h2 ?_); (case h => first | rfl | assumption); (case h2 => first | assumption | rfl))
  | ((with_reducible refine' o_ninT ?h ?h2 ?_); (case h => first | rfl | assumption); (case h2 => first | assumption | rfl))
  | ((with_reducible refine' w_tmA ?h ?c ?_); (case h => rfl); (case c => first | rfl | assumption))
  | ((with_reducible refine' w_tmB ?h ?c ?h2 ?_); (case h => rfl); (case c => first | rfl | assumption); (case h2 => rfl))
  | ((with_reducible refine' w_disp ?h ?l ?_); (case h => rfl); (case l => walk_at "vsz"))
  | ((with_reducible refine' w_keys ?h ?nd ?l ?_); (case h => rfl); (case nd => decide); (case l => exact Nat.le_of_ble_eq_true rfl))
  | ((with_reducible refine' w_va ?h ?_); (case h => rfl))
  | ((with_reducible refine' w_mu ?h ?h2 ?_); (case h => rfl); (case h2 => rfl))
  | ((with_reducible refine' w_bag ?h ?_); (case h => rfl))
  | ((with_reducible refine' w_mut ?h ?_); (case h => rfl))
  | ((with_reducible refine' w_ri ?h ?h2 ?_); (case h => rfl); (case h2 => first | exact isi_bool_bool | exact isi_bool_int | exact isi_bool_str | exact isi_bool_list | exact isi_bool_tuple | exact isi_int_bool | exact isi_int_int | exact isi_int_str | exact isi_int_list | exact isi_int_tuple | exact isi_str_bool | exact isi_str_int | exact isi_str_str | exact isi_str_list | exact isi_str_tuple | exact isi_list_bool | exact isi_list_int | exact isi_list_str | exact isi_list_list | exact isi_list_tuple | exact isi_tuple_bool | exact isi_tuple_int | exact isi_tuple_str | exact isi_tuple_list | exact isi_tuple_tuple))
  | ((with_reducible refine' o_draw ?h ?h2 (fun r r0 r1 => ?_)); (case h => first | decide | omega); (case h2 => first | decide | exact lt_big (by omega)))
  | ((with_reducible refine' o_addS ?h ?_); (case h => walk_at "vsz"))
  | ((with_reducible refine' o_addL ?h ?_); (case h => walk_at "vsz"))
  | ((with_reducible refine' o_addT ?h ?_); (case h => walk_at "vsz"))
  | ((with_reducible refine' o_mulS ?h ?_); (case h => exact ⟨by omega, by omega, by (simp only [len1, Str.length_append]; omega)⟩))
  | ((with_reducible refine' o_mulI ?h ?_); (case h => walk_at "vmul"))
  | ((with_reducible refine' o_mod ?h ?_); (case h => first | decide | omega))
  | ((with_reducible refine' o_div ?h ?_); (case h => walk_at "vdiv"))
  | ((with_reducible refine' o_ixL ?h ?_); (case h => walk_at "vat"))
  | ((with_reducible refine' o_ixT ?h ?_); (case h => walk_at "vat"))
  | ((with_reducible refine' o_lenS ?h ?_); (case h => walk_at "vsz"))
  | ((with_reducible refine' o_slS ?h ?_); (case h => walk_at "vsz"))
  | ((with_reducible refine' o_isB ?h ?_); (case h => rfl))
  | ((with_reducible refine' o_in ?h ?f ?fa ?_); (case h => rfl); (case f => rfl); (case fa => first | rfl | assumption))
  | ((with_reducible refine' o_in2F ?h ?f ?fa ?_); (case h => rfl); (case f => rfl); (case fa => first | rfl | assumption))
  | ((with_reducible refine' o_nin2F ?h ?f ?fa ?_); (case h => rfl); (case f => rfl); (case fa => first | rfl | assumption))
  | ((with_reducible refine' o_inP ?h ?h2 ?_); (case h => first | rfl | assumption); (case h2 => first | assumption | rfl))
  | ((with_reducible refine' o_ninP ?h ?h2 ?_); (case h => first | rfl | assumption); (case h2 => first | assumption | rfl))
  | ((with_reducible refine' o_nin ?h ?f ?fa ?_); (case h => rfl); (case f => rfl); (case fa => first | rfl | assumption))
  | ((with_reducible refine' m_app ?h ?_); (case h => walk_at "vsz"))
  | ((with_reducible refine' m_ext ?h ?_); (case h => walk_at "vsz"))
  | ((with_reducible refine' w_rj ?h ?h1 ?h2 ?_); (case h => rfl); (case h1 => omega); (case h2 => omega))
  | ((with_reducible refine' w_rd ?h ?h2 ?h3 ?h4 ?_); (case h => rfl); (case h2 => rfl); (case h3 => rfl); (case h4 => rfl))
  | ((with_reducible refine' w_rdi ?h ?h2 ?h3 ?_); (case h => rfl); (case h2 => rfl); (case h3 => rfl))
  | ((with_reducible refine' iteTr ?h ?_); (case h => first | rfl | decide))
  | ((with_reducible refine' iteFr ?h ?_); (case h => first | rfl | decide))
  | ((with_reducible refine' w_rk ?h ?h1 ?_); (case h => rfl); (case h1 => omega))
  | ((with_reducible refine' w_lcB ?h ?_); (case h => rfl))
  | ((with_reducible refine' w_lri ?h ?_); (case h => unfold RgOk; omega))
  | ((with_reducible refine' w_aug ?h ?_); (case h => rfl))
  | ((with_reducible refine' w_setA ?h ?_); (case h => rfl))
  | ((with_reducible refine' w_dputA ?h ?_); (case h => rfl))
  | ((with_reducible refine' m_ins ?h ?h0 ?h1 ?_); (case h => walk_at "vsz"); (case h0 => omega); (case h1 => omega))
  | ((with_reducible refine' w_setB ?h ?h2 ?_); (case h => rfl); (case h2 => assumption))
  | (with_reducible refine iteD (fun h => ?_) (fun h => ?_))
  | (with_reducible refine iteND (fun h => ?_) (fun h => ?_))
  | (with_reducible refine iteB (fun h => ?_) (fun h => ?_))
  | (refine ⟨_, rfl, ?_⟩)
  | fail
  )

theorem max_lv {lv : List Nat} {d : Nat} (ok : LvOk lv d) {m : Int} (hm : m ∈ natI lv) (hx : ∀ y ∈ natI lv, y ≤ m) : m + 1 = d := by
  unfold natI at hm hx
  obtain ⟨x, hx1, rfl⟩ := List.mem_map.mp hm
  have h1 := ok.lt x hx1
  have h2 := hx _ (List.mem_map.mpr ⟨d - 1, ok.all (d - 1) (by omega), rfl⟩)
  omega
theorem lv_nil {lv : List Nat} {d : Nat} (ok : LvOk lv d) (h : lv.length = 0) : d = 0 := by
  cases d with
  | zero => rfl
  | succ d =>
    have := ok.all d (Nat.lt_succ_self d)
    rw [List.eq_nil_of_length_eq_zero h] at this
    cases this
def rowsD (lv : List Nat) (d : Nat) : List PyData := (List.range d).map fun r => .list (natD (placesAt lv r))
def sv_law_rows_of : VSp := fun ds k => ∃ lv sg d, LvOk lv d ∧ ds = [netD lv sg] ∧ k (.list (rowsD lv d), true)
abbrev g_law_rows_of : FS := (vSeq (vAsg (vC (.int 0)) 1) (vCut (vIf (vTest (vOp fGt (vOf (vCall fLen (vCons (vOf (vOp fIx (vRef 0) (vOf (vC (.int 0))))) vNil))) (vOf (vC (.int 0))))) (vAsg (vOp fAdd (vOf (vCall (fTopT max) (vCons (vOf (vOp fIx (vRef 0) (vOf (vC (.int 0))))) vNil))) (vOf (vC (.int 1)))) 1) vPass) (vRet (vLc (vRng1 (vCons (vRef 1) vNil)) (gN 3) vYes (vLc (vRng1 (vCons (vOf (vCall fLen (vCons (vOf (vOp fIx (vRef 0) (vOf (vC (.int 0))))) vNil))) vNil)) (gN 2) (vTest (vOp fEq (vOf (vOp fIx (vOf (vOp fIx (vRef 0) (vOf (vC (.int 0))))) (vRef 2))) (vRef 3))) (vVar 2) [2]) [3]))))
theorem vf_law_rows_of (ds : List PyData) (k : KO) (h : sv_law_rows_of ds k) : ds.length = 1 ∧ g_law_rows_of (ds.map Sl.fz ++ List.replicate (4 - ds.length) Sl.no) { nx := fun _ => k (.none, false), rt := fun r _ => k r } := by
  obtain ⟨lv, sg, d, ok, rfl, hk⟩ := h
  refine ⟨rfl, ?_⟩
  have nl := natD_len lv
  have l60 := ok.len
  have d40 := ok.dl
  show g_law_rows_of [.fz (.tuple [.tuple (natD lv), .tuple (edsD sg)]), .no, .no, .no] _
  walk_at "v"
  refine w_cut (fun s => s = [.fz (.tuple [.tuple (natD lv), .tuple (edsD sg)]), .fz (.int d), .no, .no]) ?_ ?_
  · walk_at "v"
    · rename_i h
      rw [natD_ints]
      refine o_maxT (fun e => ?_) (fun m hm hx => ?_)
      · have := congrArg List.length e
        unfold natI at this
        rw [List.length_map] at this
        simp at this
        simp [this] at nl h
      walk_at "v"
      rw [max_lv ok hm hx]
      rfl
    · rename_i h
      rw [lv_nil ok (by omega)]
      rfl
  rintro s rfl
  walk_at "v"
  refine lc_all (List.range d) (fun n : Nat => PyData.int n) (fun r => .list (natD (placesAt lv r))) ?_ ?_ (fun r hr T hT => ?_) (fun s' w => ?_)
  · exact rg_nat2 d
  · rw [List.length_range]; omega
  · show gN 3 _ _ _
    walk_at "v"
    refine lc_map (List.range lv.length) (fun n : Nat => PyData.int n) (fun p => decide (lvAt lv p = r)) (fun n : Nat => PyData.int n) ?_ ?_ (fun p hp T2 T0 hT2 hT0 => ?_) (fun s' w => ?_)
    · rw [natD_len]; exact rg_nat2 lv.length
    · rw [List.length_range]; omega
    · have a1 := at_lv (List.mem_range.mp hp)
      show gN 2 _ _ _
      walk_at "v"
      · rename_i h
        exact hT2 (decide_eq_true (by omega)) _ rfl
      · rename_i h
        exact hT0 (decide_eq_false (by omega)) _ rfl
    rw [EV.backV_same w]
    exact hT _ rfl
  exact hk
def ordD (os : List (List Nat)) : PyData := .tuple (os.map fun o => .tuple (natD o))
def OrdOk (lv : List Nat) (d : Nat) (os : List (List Nat)) : Prop := Paired (fun r o => o.Perm (placesAt lv r)) (List.range d) os
theorem ord_rel {lv : List Nat} : ∀ {rs : List Nat} {ys : List PyData}, Paired (fun r y => ∃ o : List Nat, y = .tuple (natD o) ∧ o.Perm (placesAt lv r)) rs ys → ∃ os : List (List Nat), ys = os.map (fun o => .tuple (natD o)) ∧ Paired (fun r o => o.Perm (placesAt lv r)) rs os
  | _, _, .nil => ⟨[], rfl, .nil⟩
  | _, _, .cons h t => by
    obtain ⟨o, rfl, p⟩ := h
    obtain ⟨os, rfl, q⟩ := ord_rel t
    exact ⟨o :: os, rfl, .cons p q⟩
theorem OrdOk.get {lv : List Nat} {d r : Nat} {os : List (List Nat)} (h : OrdOk lv d os) (hr : r < d) : ∃ o, os[r]? = some o ∧ o.Perm (placesAt lv r) := by
  obtain ⟨o, e, p⟩ := Paired.get1 h (show (List.range d)[r]? = some r from by rw [List.getElem?_range hr])
  exact ⟨o, e, p⟩
theorem at_ord {os : List (List Nat)} {r : Nat} {o : List Nat} (h : os[r]? = some o) : atI (os.map fun o => PyData.tuple (natD o)) (r : Nat) = some (.tuple (natD o)) := atI_nat (by rw [List.getElem?_map, h]; rfl)
def sv_law_orders : VSp := fun ds k => ∃ lv sg d, LvOk lv d ∧ ds = [netD lv sg] ∧ ∀ os, OrdOk lv d os → k (ordD os, false)
abbrev g_law_orders : FS := (vRet (vCall fTuple (vCons (vOf (vLc (vItL (vDef sv_law_rows_of (vCons (vOf (vVar 1)) vNil))) (gN 2) vYes (vCall fTuple (vCons (vOf (vBag sv_law_shuffle 0 (vCons (vOf (vVar 2)) vNil))) vNil)) [2])) vNil)))
theorem vf_law_orders (ds : List PyData) (k : KO) (h : sv_law_orders ds k) : ds.length = 1 ∧ g_law_orders (.bg :: (ds.map Sl.fz ++ List.replicate (3 - (ds.length + 1)) Sl.no)) { nx := fun _ => k (.none, false), rt := fun r _ => k r } := by
  obtain ⟨lv, sg, d, ok, rfl, hk⟩ := h
  refine ⟨rfl, ?_⟩
  have d40 := ok.dl
  have l60 := ok.len
  show g_law_orders [.bg, .fz (netD lv sg), .no] _
  walk_at "v"
  refine ⟨lv, sg, d, ok, rfl, ?_⟩
  walk_at "v"
  refine lc_rel (List.range d) (fun r => .list (natD (placesAt lv r))) (fun r y => ∃ o : List Nat, y = .tuple (natD o) ∧ o.Perm (placesAt lv r)) ?_ ?_ (fun r hr T hT => ?_) (fun ys s' w h => ?_)
  · rfl
  · rw [List.length_range]; omega
  · show gN 2 _ _ _
    walk_at "v"
    refine ⟨by rw [natD_len]; have := places_len lv r; omega, fun ys hp => ?_⟩
    obtain ⟨o, rfl, p⟩ := perm_map (fun n : Nat => PyData.int n) hp
    walk_at "v"
    exact hT _ _ ⟨o, rfl, p⟩ rfl
  obtain ⟨os, rfl, q⟩ := ord_rel h
  rw [EV.backV_same w]
  walk_at "v"
  exact hk os q
def sv_law_whole : VSp := fun ds k => ∃ i, ds = [.int i] ∧ k (.bool true, false)
abbrev g_law_whole : FS := (vRet (vAndV (vIsi "int" (vRef 0)) (vNotV (vIsi "bool" (vRef 0)))))
theorem vf_law_whole (ds : List PyData) (k : KO) (h : sv_law_whole ds k) : ds.length = 1 ∧ g_law_whole (ds.map Sl.fz ++ List.replicate (1 - ds.length) Sl.no) { nx := fun _ => k (.none, false), rt := fun r _ => k r } := by
  obtain ⟨i, rfl, hk⟩ := h
  refine ⟨rfl, ?_⟩
  show g_law_whole [.fz (.int i)] _
  walk_at "v"
  exact hk
def sv_law_wholes : VSp := fun ds k => ∃ ks : List Nat, ds = [.tuple (natD ks), .int ks.length] ∧ k (.bool true, false)
abbrev g_law_wholes : FS := (vSeq (vIf (vOr (vNot (vTest (vIsi "tuple" (vRef 0)))) (vTest (vOp fNe (vOf (vCall fLen (vCons (vRef 0) vNil))) (vRef 1)))) (vRet (vC (.bool false))) vPass) (vSeq (vFor (vItT (vVar 0)) (gN 2) (vIf (vNot (vTest (vDef sv_law_whole (vCons (vOf (vVar 2)) vNil)))) (vRet (vC (.bool false))) vPass)) (vRet (vC (.bool true)))))
theorem vf_law_wholes (ds : List PyData) (k : KO) (h : sv_law_wholes ds k) : ds.length = 2 ∧ g_law_wholes (ds.map Sl.fz ++ List.replicate (3 - ds.length) Sl.no) { nx := fun _ => k (.none, false), rt := fun r _ => k r } := by
  obtain ⟨ks, rfl, hk⟩ := h
  refine ⟨rfl, ?_⟩
  have nl := natD_len ks
  show g_law_wholes [.fz (.tuple (natD ks)), .fz (.int ks.length), .no] _
  walk_at "v"
  · exfalso; omega
  refine for_inv (fun i s => ∃ x2, s = [.fz (.tuple (natD ks)), .fz (.int ks.length), x2]) ⟨_, rfl⟩ ?_ ?_
  · rintro i d s F hi ed ⟨x2, rfl⟩ hF
    rw [List.getElem?_map] at ed
    obtain ⟨j, ej, rfl⟩ := Option.map_eq_some_iff.mp ed
    show vIf _ _ _ [.fz (.tuple (natD ks)), .fz (.int ks.length), .fz (.int j)] _
    walk_at "v"
    exact hF _ ⟨_, rfl⟩
  · rintro s ⟨x2, rfl⟩
    walk_at "v"
    exact hk
section
variable {P : Program} {w : World} {K : PySem.W.Frag} {mg : Str → Option Value} {base : Heap}
theorem okv_law_rows_of (T : Txt K mg) : FnOk P w K mg base CX0 1 T.f_law_rows_of T.fd_law_rows_of ["net"] (spV K sv_law_rows_of) := by
  refine T.F_law_rows_of.ok sc_law_rows_of (fun vs H Q E h => by obtain ⟨N, ds, k, _, ra, hs, _⟩ := h; rw [ra.len, (vf_law_rows_of ds k hs).1]; rfl) (fun cdv A outer s H vs Q E hr h => ?_)
  exact ⟨_, (pss_cons (ps_set (i := 1) sc_law_rows_of.nd rfl (by first | exact Or.inl rfl | exact Or.inr rfl) pe_int)
   (C8.pss_cut (ps_if (pt_cmpR dGt (pe_callB (dLen K) (by rfl) T.n_len (by decide +kernel) (pa_cons (pe_ix (dIx K) (pv 0) pe_int (fun _ _ => rfl)) pa_nil)) pe_int (nomark _))
    (pss_one (ps_set (i := 1) sc_law_rows_of.nd rfl (by first | exact Or.inl rfl | exact Or.inr rfl) (pe_op (dAddVZ K) (pe_callB (dMaxT K rfl hr.units) (by rfl) T.n_max (by decide +kernel) (pa_cons (pe_ix (dIx K) (pv 0) pe_int (fun _ _ => rfl)) pa_nil)) pe_int)))
    pss_nil)
   (pss_one (ps_ret (pe_lc (own := [("r", 3)]) (g := gName 3) (tt := tYes) rfl sc_law_rows_of.nd  (pi_range1 rfl T.n_range (pa_cons (pv 1) pa_nil)) (blkOk_by (own := [("r", 3)]) (N := ["net", "depth", "p", "r"]) (sc := defScope s_law_rows_of) (by decide +kernel)) (fun _ _ _ _ _ => (pg_name (i := 3) sc_law_rows_of.nd rfl (by first | exact Or.inl rfl | exact Or.inr rfl))) (fun _ _ _ _ _ => pts_nil) (fun _ _ _ _ _ => (pe_lc (own := [("p", 2)]) (g := gName 2) rfl sc_law_rows_of.nd  (pi_range1 rfl T.n_range (pa_cons (pe_callB (dLen K) (by rfl) T.n_len (by decide +kernel) (pa_cons (pe_ix (dIx K) (pv 0) pe_int (fun _ _ => rfl)) pa_nil)) pa_nil)) (blkOk_by (own := [("p", 2)]) (N := ["net", "depth", "p", "r"]) (by rfl)) (fun _ _ _ _ _ => (pg_name (i := 2) sc_law_rows_of.nd rfl (by first | exact Or.inl rfl | exact Or.inr rfl))) (fun _ _ _ _ _ => (pts_one (pt_cmpR (dEqV K hr.units) (pe_ix (dIx K) (pe_ix (dIx K) (pv 0) pe_int (fun _ _ => rfl)) (pv 2) (fun _ _ => rfl)) (pv 3) (nomark _)))) (fun _ _ _ _ _ => (pv 2))))))))), run_V (ls_seq (ls_asg (le_c fun _ _ => .int _)) (ls_cut (ls_if (lt_test (le_op ol_gt (lb_of (le_cb ol_len (la_cons (lb_of (le_op ol_ix lb_ref (lb_of (le_c fun _ _ => .int _)))) la_nil))) (lb_of (le_c fun _ _ => .int _)))) (ls_asg (le_op ol_add (lb_of (le_cb ol_topT (la_cons (lb_of (le_op ol_ix lb_ref (lb_of (le_c fun _ _ => .int _)))) la_nil))) (lb_of (le_c fun _ _ => .int _)))) ls_pass) (ls_ret (le_lc (li_rng1 (la_cons lb_ref la_nil)) lg_name (gin_name (by decide)) lt_yes (le_lc (li_rng1 (la_cons (lb_of (le_cb ol_len (la_cons (lb_of (le_op ol_ix lb_ref (lb_of (le_c fun _ _ => .int _)))) la_nil))) la_nil)) lg_name (gin_name (by decide)) (lt_test (le_op ol_eq (lb_of (le_op ol_ix (lb_of (le_op ol_ix lb_ref (lb_of (le_c fun _ _ => .int _)))) lb_ref)) lb_ref)) le_var))))) (fun ds k hs => ⟨by rw [(vf_law_rows_of ds k hs).1]; decide, (vf_law_rows_of ds k hs).2⟩) h⟩
theorem okv_law_orders (T : Txt K mg) : FnOk P w K mg base CX0 3 T.f_law_orders T.fd_law_orders ["bag", "net"] (spB K sv_law_orders) := by
  refine T.F_law_orders.ok sc_law_orders (fun vs H Q E h => by obtain ⟨N, b, c, us, ds, k, rfl, _, _, _, _, ra, hs, _⟩ := h; rw [List.length_cons, ra.len, (vf_law_orders ds k hs).1]; rfl) (fun cdv A outer s H vs Q E hr h => ?_)
  exact ⟨_, (pss_one (ps_ret (pe_callTy (dTupleZ K) (by rfl) T.n_tuple (by decide +kernel) (pa_cons (pe_lc (own := [("row", 2)]) (g := gName 2) (tt := tYes) rfl sc_law_orders.nd  (dpi_list K (pe_call (okv_law_rows_of T) (hr.mono (by omega)) (by rfl) T.g_law_rows_of T.F_law_rows_of.kp T.b_law_rows_of .nil pass0 (pa_cons (pv 1) pa_nil))) (blkOk_by (own := [("row", 2)]) (N := ["bag", "net", "row"]) (sc := defScope s_law_orders) (by decide +kernel)) (fun _ _ _ _ _ => (pg_name (i := 2) sc_law_orders.nd rfl (by first | exact Or.inl rfl | exact Or.inr rfl))) (fun _ _ _ _ _ => pts_nil) (fun _ _ _ _ _ => (pe_callTy (dTupleZ K) (by rfl) T.n_tuple (by decide +kernel) (pa_cons (pe_call (okv_law_shuffle T) (hr.mono (by omega)) (by rfl) T.g_law_shuffle T.F_law_shuffle.kp T.b_law_shuffle .nil pass0 (pa_cons (pv 0) (pa_cons (pv 2) pa_nil))) pa_nil)))) pa_nil)))), run_B (ls_ret (le_cb ol_tuple (la_cons (lb_of (le_lc (li_lst (le_def (la_cons (lb_of le_var) la_nil))) lg_name (gin_name (by decide)) lt_yes (le_cb ol_tuple (la_cons (lb_of (le_bag (la_cons (lb_of le_var) la_nil))) la_nil)))) la_nil))) (fun ds k hs => ⟨by rw [(vf_law_orders ds k hs).1]; decide, (vf_law_orders ds k hs).2⟩) h⟩
theorem okv_law_whole (T : Txt K mg) : FnOk P w K mg base CX0 1 T.f_law_whole T.fd_law_whole ["got"] (spV K sv_law_whole) := by
  refine T.F_law_whole.ok sc_law_whole (fun vs H Q E h => by obtain ⟨N, ds, k, _, ra, hs, _⟩ := h; rw [ra.len, (vf_law_whole ds k hs).1]; rfl) (fun cdv A outer s H vs Q E hr h => ?_)
  exact ⟨_, (pss_one (ps_ret (pe_and (pe_callB (dIsi K) (by rfl) T.n_isinstance (by decide +kernel) (pa_cons (pv 0) (pa_cons (pe_bltn (v := .ty "int") (u := .type "int") (by rfl) T.n_int (by decide +kernel) rfl) pa_nil))) (pe_one (pe_not (pe_callB (dIsi K) (by rfl) T.n_isinstance (by decide +kernel) (pa_cons (pv 0) (pa_cons (pe_bltn (v := .ty "bool") (u := .type "bool") (by rfl) T.n_bool (by decide +kernel) rfl) pa_nil)))))))), run_V (ls_ret (le_andV (le_isi lb_ref) (le_notV (le_isi lb_ref)))) (fun ds k hs => ⟨by rw [(vf_law_whole ds k hs).1]; decide, (vf_law_whole ds k hs).2⟩) h⟩
theorem okv_law_wholes (T : Txt K mg) : FnOk P w K mg base CX0 2 T.f_law_wholes T.fd_law_wholes ["got", "many"] (spV K sv_law_wholes) := by
  refine T.F_law_wholes.ok sc_law_wholes (fun vs H Q E h => by obtain ⟨N, ds, k, _, ra, hs, _⟩ := h; rw [ra.len, (vf_law_wholes ds k hs).1]; rfl) (fun cdv A outer s H vs Q E hr h => ?_)
  exact ⟨_, (pss_cons (ps_if (PW.pt (pw_or (pt_not (pt_val (pe_callB (dIsi K) (by rfl) T.n_isinstance (by decide +kernel) (pa_cons (pv 0) (pa_cons (pe_bltn (v := .ty "tuple") (u := .type "tuple") (by rfl) T.n_tuple (by decide +kernel) rfl) pa_nil))))) (pw_or1 (pt_cmpR (dNeV K hr.units) (pe_callB (dLen K) (by rfl) T.n_len (by decide +kernel) (pa_cons (pv 0) pa_nil)) (pv 1) (nomark _)))))
    (pss_one (ps_ret pe_bl))
    pss_nil)
   (pss_cons (ps_for PassesOwn.never rfl (dpi_tup K (pv 0)) (pg_name (i := 2) sc_law_wholes.nd rfl (by first | exact Or.inl rfl | exact Or.inr rfl))
    (pss_one (ps_if (pt_not (pt_val (pe_call (okv_law_whole T) (hr.mono (by omega)) (by rfl) T.g_law_whole T.F_law_whole.kp T.b_law_whole .nil pass0 (pa_cons (pv 2) pa_nil))))
     (pss_one (ps_ret pe_bl))
     pss_nil)))
   (pss_one (ps_ret pe_bl)))), run_V (ls_seq (ls_if (lt_or (lt_not (lt_B (le_isi lb_ref))) (lt_test (le_op ol_ne (lb_of (le_cb ol_len (la_cons lb_ref la_nil))) lb_ref))) (ls_ret (le_c fun _ _ => .bl _)) ls_pass) (ls_seq (ls_for (li_tup le_var) lg_name (ls_if (lt_not (lt_B (le_def (la_cons (lb_of le_var) la_nil)))) (ls_ret (le_c fun _ _ => .bl _)) ls_pass)) (ls_ret (le_c fun _ _ => .bl _)))) (fun ds k hs => ⟨by rw [(vf_law_wholes ds k hs).1]; decide, (vf_law_wholes ds k hs).2⟩) h⟩
end
end K63
namespace K63
open PySem PySem.Spec PyProof.Rows L2 D0 EV
/- walking through a body's meaning -/
local macro_rules | `(tactic| walk_at "vsz") => `(tactic| first | assumption | decide | omega | exact Nat.le_of_ble_eq_true rfl | (simp only [List.length_map, List.length_append, List.length_cons, List.length_nil, List.length_range, List.length_replicate, List.length_reverse, rg_len]; first | decide | omega) | exact sz4 (by omega) | exact sz4' (by omega) | (simp only [List.length_map, List.length_append, List.length_cons, List.length_nil, List.length_range, List.length_replicate, List.length_reverse, rg_len, Str.length_append, len1, strD_len]; first | exact sz4 (by omega) | exact sz4' (by omega)))
local macro_rules | `(tactic| walk_at "vat") => `(tactic| first | assumption | rfl | exact atI_nat (j := 0) rfl | exact atI_nat (j := 1) rfl | exact atI_nat (j := 2) rfl)
local macro_rules | `(tactic| walk_at "vmul") => `(tactic| first | exact .inr ⟨by decide, by decide⟩ | exact .inl ⟨by omega, by omega⟩ | exact .inr ⟨by omega, by omega⟩)
local macro_rules | `(tactic| walk_at "vdiv") => `(tactic| with_reducible first | exact div97 | exact div3 | exact div2 | exact div_m (by omega) (by omega))
local macro_rules | `(tactic| walk_at "v") => `(tactic| repeat' walk_at "v1")
local macro_rules | `(tactic| walk_at "vA") => `(tactic| with_reducible first
  | refine w_seq ?_
  | refine w_asg ?_
  | refine w_asgG ?_
  | refine w_of ?_
  | refine w_c ?_
  | refine w_op ?_
  | refine w_un ?_
  | refine w_call ?_
  | refine w_nil ?_
  | refine w_cons ?_
  | refine w_if ?_
  | refine w_ret ?_
  | refine w_retN ?_
  | refine w_drop ?_
  | refine w_pass ?_
  | refine w_brk ?_
  | refine w_cnt ?_
  | refine w_test ?_
  | refine w_and ?_
  | refine w_or ?_
  | refine w_not ?_
  | refine w_yes ?_
  | refine w_andV ?_
  | refine w_orV ?_
  | refine w_notV ?_
  | refine w_ifE ?_
  | refine w_chain ?_
  | refine w_b ?_
  | refine w_i ?_
  | refine w_s ?_
  | refine w_def ?_
  | refine w_defF ?_
  | refine w_isi ?_
  | refine w_star ?_
  | refine w_noPart ?_
  | refine w_part ?_
  | refine w_sl ?_
  | refine w_rev ?_
  | refine w_tup ?_
  | refine w_par ?_
  | refine w_parV ?_
  | refine w_lst ?_
  | refine w_join ?_
  | refine w_dget ?_
  | refine w_din ?_
  | refine w_for ?_
  | refine w_rng1 ?_
  | refine w_rng2 ?_
  | refine w_itL ?_
  | refine w_itT ?_
  | refine w_itS ?_
  | refine w_lc ?_
  | refine w_lc2 ?_
  | refine w_dict ?_
  | refine w_pnil ?_
  | refine w_pcons ?_
  | refine w_gN ?_
  | refine w_gT rfl ?_
  | refine w_gsNil ?_
  | refine w_gsCons ?_
  | refine o_addI ?_
  | refine o_sub ?_
  | refine o_lt ?_
  | refine o_le ?_
  | refine o_gt ?_
  | refine o_ge ?_
  | refine o_eqI ?_
  | refine o_eqS ?_
  | refine o_neI ?_
  | refine o_neS ?_
  | refine o_isN ?_
  | refine o_notN ?_
  | refine o_slL ?_
  | refine o_slT ?_
  | refine o_revL ?_
  | refine o_revT ?_
  | refine o_neg ?_
  | refine o_lenL ?_
  | refine o_lenT ?_
  | refine o_int ?_
  | refine o_intB ?_
  | refine o_strS ?_
  | refine o_strB ?_
  | refine o_abs ?_
  | refine o_max2 ?_
  | refine o_min2 ?_
  | refine o_list ?_
  | refine o_listT ?_
  | refine o_tup ?_
  | refine o_tupT ?_
  | refine o_sum ?_
  | refine w_lrg ?_
  | refine w_dc ?_
  | refine w_cnt1 ?_
  | refine w_callK ?_
  | refine w_dput ?_
  | refine w_tm ?_
  | refine o_neBs ?_
  | refine o_eqTs ?_
  | refine w_enT ?_
  | refine w_enL ?_
  | refine o_maxDef ?_
  | refine w_tru ?_
  | refine o_eqP ?_
  | refine o_eqIs ?_
  | refine o_neIs ?_
  | refine w_trg ?_
  | refine w_setL ?_
  | refine iteT ?_
  | refine iteF ?_)
local macro_rules | `(tactic| walk_at "v1") => `(tactic| first
  | walk_at "vA"
  | ((with_reducible refine' w_ref ?h ?_); (case h => rfl))
  | ((with_reducible refine' w_varF ?h ?_); (case h => rfl))
  | ((with_reducible refine' w_varO ?h ?_); (case h => rfl))
  | ((with_reducible refine' w_movF ?h ?_); (case h => rfl))
  | ((with_reducible refine' w_movO ?h ?_); (case h => rfl))
  | ((with_reducible refine' w_r2 ?h ?h2 ?_); (case h => rfl); (case h2 => rfl))
  | ((with_reducible refine' w_r1 ?h ?_); (case h => rfl))
  | ((with_reducible refine' w_ra ?h ?_); (case h => rfl))
  | ((with_reducible refine' w_ra2 ?h ?h2 ?_); (case h => rfl); (case h2 => rfl))
  | ((with_reducible refine' w_trx ?h ?h2 ?_); (case h => rfl); (case h2 => rfl))
  | ((with_reducible refine' o_inT ?h ?h2 ?_); (case h => first | rfl | assumption); (case h2 => first | assumption | rfl))
  | ((with_reducible refine' o_ninT ?h ?h2 ?_); (case h => first | rfl | assumption); (case h2 => first | assumption | rfl))
  | ((with_reducible refine' w_tmA ?h ?c ?_); (case h => rfl); (case c => first | rfl | assumption))
  | ((with_reducible refine' w_tmB ?h ?c ?h2 ?_); (case h => rfl); (case c => first | rfl | assumption); (case h2 => rfl))
  | ((with_reducible refine' w_disp ?h ?l ?_); (case h => rfl); (case l => walk_at "vsz"))
  | ((with_reducible refine' w_keys ?h ?nd ?l ?_); (case h => rfl); (case nd => decide); (case l => exact Nat.le_of_ble_eq_true rfl))
  | ((with_reducible refine' w_va ?h ?_); (case h => rfl))
  | ((with_reducible refine' w_mu ?h ?h2 ?_); (case h => rfl); (case h2 => rfl))
  | ((with_reducible refine' w_bag ?h ?_); (case h => rfl))
  | ((with_reducible refine' w_mut ?h ?_); (case h => rfl))
  | ((with_reducible refine' w_ri ?h ?h2 ?_); (case h => rfl); (case h2 => first | exact isi_bool_bool | exact isi_bool_int | exact isi_bool_str | exact isi_bool_list | exact isi_bool_tuple | exact isi_int_bool | exact isi_int_int | exact isi_int_str | exact isi_int_list | exact isi_int_tuple | exact isi_str_bool | exact isi_str_int | exact isi_str_str | exact isi_str_list | exact isi_str_tuple | exact isi_list_bool | exact isi_list_int | exact isi_list_str | exact isi_list_list | exact isi_list_tuple | exact isi_tuple_bool | exact isi_tuple_int | exact isi_tuple_str | exact isi_tuple_list | exact isi_tuple_tuple))
  | ((with_reducible refine' o_draw ?h ?h2 (fun r r0 r1 => ?_)); (case h => first | decide | omega); (case h2 => first | decide | exact lt_big (by omega)))
  | ((with_reducible refine' o_addS ?h ?_); (case h => walk_at "vsz"))
  | ((with_reducible refine' o_addL ?h ?_); (case h => walk_at "vsz"))
  | ((with_reducible refine' o_addT ?h ?_); (case h => walk_at "vsz"))
  | ((with_reducible refine' o_mulS ?h ?_); (case h => exact ⟨by omega, by omega, by (simp only [len1, Str.length_append]; omega)⟩))
  | ((with_reducible refine' o_mulI ?h ?_); (case h => walk_at "vmul"))
  | ((with_reducible refine' o_mod ?h ?_); (case h => first | decide | omega))
  | ((with_reducible refine' o_div ?h ?_); (case h => walk_at "vdiv"))
  | ((with_reducible refine' o_ixL ?h ?_); (case h => walk_at "vat"))
  | ((with_reducible refine' o_ixT ?h ?_); (case h => walk_at "vat"))
  | ((with_reducible refine' o_lenS ?h ?_); (case h => walk_at "vsz"))
  | ((with_reducible refine' o_slS ?h ?_); (case h => walk_at "vsz"))
  | ((with_reducible refine' o_isB ?h ?_); (case h => rfl))
  | ((with_reducible refine' o_in ?h ?f ?fa ?_); (case h => rfl); (case f => rfl); (case fa => first | rfl | assumption))
  | ((with_reducible refine' o_in2F ?h ?f ?fa ?_); (case h => rfl); (case f => rfl); (case fa => first | rfl | assumption))
  | ((with_reducible refine' o_nin2F ?h ?f ?fa ?_); (case h => rfl); (case f => rfl); (case fa => first | rfl | assumption))
  | ((with_reducible refine' o_inP ?h ?h2 ?_); (case h => first | rfl | assumption); (case h2 => first | assumption | rfl))
  | ((with_reducible refine' o_ninP ?h ?h2 ?_); (case h => first | rfl | assumption); (case h2 => first | assumption | rfl))
  | ((with_reducible refine' o_nin ?h ?f ?fa ?_); (case h => rfl); (case f => rfl); (case fa => first | rfl | assumption))
  | ((with_reducible refine' m_app ?h ?_); (case h => walk_at "vsz"))
  | ((with_reducible refine' m_ext ?h ?_); (case h => walk_at "vsz"))
  | ((with_reducible refine' w_rj ?h ?h1 ?h2 ?_); (case h => rfl); (case h1 => omega); (case h2 => omega))
  | ((with_reducible refine' w_rd ?h ?h2 ?h3 ?h4 ?_); (case h => rfl); (case h2 => rfl); (case h3 => rfl); (case h4 => rfl))
  | ((with_reducible refine' w_rdi ?h ?h2 ?h3 ?_); (case h => rfl); (case h2 => rfl); (case h3 => rfl))
  | ((with_reducible refine' iteTr ?h ?_); (case h => first | rfl | decide))
  | ((with_reducible refine' iteFr ?h ?_); (case h => first | rfl | decide))
  | ((with_reducible refine' w_rk ?h ?h1 ?_); (case h => rfl); (case h1 => omega))
  | ((with_reducible refine' w_lcB ?h ?_); (case h => rfl))
  | ((with_reducible refine' w_lri ?h ?_); (case h => unfold RgOk; omega))
  | ((with_reducible refine' w_aug ?h ?_); (case h => rfl))
  | ((with_reducible refine' w_setA ?h ?_); (case h => rfl))
  | ((with_reducible refine' w_dputA ?h ?_); (case h => rfl))
  | ((with_reducible refine' m_ins ?h ?h0 ?h1 ?_); (case h => walk_at "vsz"); (case h0 => omega); (case h1 => omega))
  | ((with_reducible refine' w_setB ?h ?h2 ?_); (case h => rfl); (case h2 => assumption))
  | (with_reducible refine iteD (fun h => ?_) (fun h => ?_))
  | (with_reducible refine iteND (fun h => ?_) (fun h => ?_))
  | (with_reducible refine iteB (fun h => ?_) (fun h => ?_))
  | (refine ⟨_, rfl, ?_⟩)
  | fail
  )

def idxEs (o : List Nat) : List (PyData × PyData) := o.zipIdx.map fun p => (keyD (.inl (p.1 : Int)), PyData.int (p.2 : Nat))
theorem kind_idx (x : Nat) : ∀ (l : List (Nat × Nat)), kindOk (l.map fun p => (keyD (.inl (p.1 : Int)), PyData.int (p.2 : Nat))) (.int x) = true
  | [] => rfl
  | p :: l => by
    have ih := kind_idx x l
    show kindOk ((.int (p.1 : Int), .int (p.2 : Nat)) :: l.map fun p => (keyD (.inl (p.1 : Int)), PyData.int (p.2 : Nat))) (.int x) = true
    cases h : (l.map fun p => (keyD (.inl (p.1 : Int)), PyData.int (p.2 : Nat))) with
    | nil => rfl
    | cons a b => rw [h] at ih; simp only [kindOk]; exact ih
theorem look_idx (x : Nat) : ∀ (o : List Nat) (n : Nat), x ∈ o → lookD ((o.zipIdx n).map fun p => (keyD (.inl (p.1 : Int)), PyData.int (p.2 : Nat))) (.int x) = some (.int (o.idxOf x + n : Nat))
  | [], _, h => nomatch h
  | y :: o, n, h => by
    rw [List.zipIdx_cons, List.map_cons]
    unfold lookD
    show (if PyData.eqv (.int (y : Nat)) (.int (x : Nat)) = true then _ else _) = _
    rw [eqv_int]
    by_cases e : y = x
    · subst e
      rw [if_pos (by simp)]
      simp
    · have e2 : ¬ ((y : Nat) : Int) = (x : Nat) := by omega
      rw [if_neg (by simpa using e2)]
      rw [look_idx x o (n + 1) (by rcases List.mem_cons.mp h with q | q; exact absurd q.symm e; exact q)]
      rw [List.idxOf_cons, show (y == x) = false from by simpa using e]
      show some (PyData.int ((o.idxOf x + (n + 1) : Nat) : Int)) = some (PyData.int ((o.idxOf x + 1 + n : Nat) : Int))
      congr 2
      omega
theorem look_o {o : List Nat} {x : Nat} (h : x ∈ o) : lookD (idxEs o) (.int x) = some (.int (o.idxOf x : Nat)) := look_idx x o 0 h
theorem zip_inl (o : List Nat) : o.zipIdx.map (fun p => (Sum.inl ((p.1 : Nat) : Int) : Key)) = o.map fun n : Nat => (Sum.inl ((n : Nat) : Int) : Key) := by
  conv => rhs; rw [← List.zipIdx_map_fst 0 o, List.map_map]
  rfl
theorem nodup_inl {o : List Nat} (nd : o.Nodup) : (o.zipIdx.map fun p => (Sum.inl ((p.1 : Nat) : Int) : Key)).Nodup := by
  rw [zip_inl]
  exact List.pairwise_map.mpr (nd.imp fun h e => h (by injection e with e; omega))
theorem zipIdx_range (lv : List Nat) : lv.zipIdx = (List.range lv.length).map fun i => (lvAt lv i, i) := by
  refine List.ext_getElem (by simp) fun i h1 h2 => ?_
  simp only [List.length_zipIdx] at h1
  simp [lvAt, List.getD_eq_getElem?_getD, List.getElem?_eq_getElem h1]
theorem zip_places (lv : List Nat) (r : Nat) : ((lv.zipIdx.filter fun p => decide (p.1 = r)).map fun p => PyData.int (p.2 : Nat)) = natD (placesAt lv r) := by
  rw [zipIdx_range, List.filter_map, List.map_map]
  rfl
theorem max_def {lv : List Nat} {d : Nat} (ok : LvOk lv d) : topD (-1) (natI lv) + 1 = (d : Int) := by
  cases h : natI lv with
  | nil =>
    have : lv.length = 0 := by have := congrArg List.length h; unfold natI at this; rw [List.length_map] at this; exact this
    rw [lv_nil ok this]; rfl
  | cons n ms =>
    obtain ⟨h1, h2⟩ := foldl_max_mem ms n
    rw [← h] at h1 h2
    exact max_lv ok h1 h2
def sv_places_by_level : VSp := fun ds k => ∃ lv sg d, LvOk lv d ∧ ds = [netD lv sg] ∧ k (.tuple ((List.range d).map fun r => .tuple (natD (placesAt lv r))), false)
abbrev g_places_by_level : FS := (vSeq (vAsg (vOp fIx (vRef 0) (vOf (vC (.int 0)))) 1) (vSeq (vAsg (vOp fAdd (vOf (vCallK fMaxDef (vCons (vRef 1) vNil) (vCons (vOf (vUn fNeg (vOf (vC (.int 1))))) vNil))) (vOf (vC (.int 1)))) 2) (vRet (vCall fTuple (vCons (vOf (vLc (vRng1 (vCons (vRef 2) vNil)) (gN 5) vYes (vCall fTuple (vCons (vOf (vLc (vEnT (vOf (vVar 1))) (gT 2 (gsCons (gN 3) (gsCons (gN 4) gsNil))) (vTest (vOp fEq (vRef 4) (vRef 5))) (vVar 3) [3, 4])) vNil)) [5])) vNil)))))
theorem vf_places_by_level (ds : List PyData) (k : KO) (h : sv_places_by_level ds k) : ds.length = 1 ∧ g_places_by_level (ds.map Sl.fz ++ List.replicate (6 - ds.length) Sl.no) { nx := fun _ => k (.none, false), rt := fun r _ => k r } := by
  obtain ⟨lv, sg, d, ok, rfl, hk⟩ := h
  refine ⟨rfl, ?_⟩
  have l60 := ok.len
  have d40 := ok.dl
  have nl := natD_len lv
  show g_places_by_level [.fz (.tuple [.tuple (natD lv), .tuple (edsD sg)]), .no, .no, .no, .no, .no] _
  walk_at "v"
  rw [natD_ints]
  have md := max_def ok
  walk_at "v"
  rw [md, ← natD_ints]
  refine lc_all (List.range d) (fun n : Nat => PyData.int n) (fun r => .tuple (natD (placesAt lv r))) ?_ ?_ (fun r hr T hT => ?_) (fun s' w => ?_)
  · exact rg_nat2 d
  · rw [List.length_range]; omega
  · show gN 5 _ _ _
    walk_at "v"
    refine lc_map lv.zipIdx (fun p => .tuple [.int (p.2 : Nat), .int (p.1 : Nat)]) (fun p => decide (p.1 = r)) (fun p => PyData.int (p.2 : Nat)) ?_ ?_ (fun p hp T2 T0 hT2 hT0 => ?_) (fun s' w => ?_)
    · exact en_map (fun n : Nat => PyData.int n) lv
    · rw [List.length_zipIdx]; omega
    · show EV.gT 2 _ (.tuple [.int (p.2 : Nat), .int (p.1 : Nat)]) _ _
      walk_at "v"
      · rename_i h
        exact hT2 (decide_eq_true (by omega)) _ rfl
      · rename_i h
        exact hT0 (decide_eq_false (by omega)) _ rfl
    rw [EV.backV_same w, zip_places]
    walk_at "v"
    exact hT _ rfl
  rw [EV.backV_same w]
  walk_at "v"
  exact hk
def S (a : Nat → Nat) : Nat → Nat
  | 0 => 0
  | n + 1 => S a n + a n
theorem S_mono (a : Nat → Nat) {m : Nat} : ∀ {n : Nat}, m ≤ n → S a m ≤ S a n
  | 0, h => by rw [Nat.le_zero.mp h]; exact Nat.le_refl _
  | n + 1, h => by
    by_cases e : m = n + 1
    · rw [e]; exact Nat.le_refl _
    · exact Nat.le_trans (S_mono a (show m ≤ n by omega)) (Nat.le_add_right _ _)
/-- each number as often as it stands there, ascending -/
def Mu (a : Nat → Nat) : Nat → List Nat
  | 0 => []
  | n + 1 => Mu a n ++ List.replicate (a n) n
theorem mu_len (a : Nat → Nat) : ∀ n, (Mu a n).length = S a n
  | 0 => rfl
  | n + 1 => by
    show (Mu a n ++ List.replicate (a n) n).length = S a n + a n
    rw [List.length_append, mu_len a n, List.length_replicate]
theorem mu_lt (a : Nat → Nat) : ∀ n, ∀ x ∈ Mu a n, x < n
  | 0, _, h => nomatch h
  | n + 1, x, h => by
    rcases List.mem_append.mp (show x ∈ Mu a n ++ List.replicate (a n) n from h) with h | h
    · exact Nat.lt_succ_of_lt (mu_lt a n x h)
    · rw [List.eq_of_mem_replicate h]; exact Nat.lt_succ_self _
theorem mu_sorted (a : Nat → Nat) : ∀ n, (Mu a n).Pairwise (· ≤ ·)
  | 0 => .nil
  | n + 1 => List.pairwise_append.mpr ⟨mu_sorted a n, List.pairwise_replicate.mpr (.inr (Nat.le_refl _)), fun x hx y hy => by rw [List.eq_of_mem_replicate hy]; exact Nat.le_of_lt (mu_lt a n x hx)⟩
theorem mu_count (a : Nat → Nat) (i : Nat) : ∀ n, (Mu a n).count i = if i < n then a i else 0
  | 0 => rfl
  | n + 1 => by
    show (Mu a n ++ List.replicate (a n) n).count i = _
    rw [List.count_append, mu_count a i n, List.count_replicate]
    by_cases h1 : i < n
    · simp [h1, show ¬ n = i by omega, Nat.lt_succ_of_lt h1]
    · by_cases h2 : i = n
      · subst h2
        simp
      · simp [h1, show ¬ n = i by omega, show ¬ i < n + 1 by omega]
theorem mu_get (a : Nat → Nat) : ∀ n t, t < S a n → ∃ m, m < n ∧ S a m ≤ t ∧ t < S a (m + 1) ∧ (Mu a n)[t]? = some m
  | 0, t, h => absurd h (Nat.not_lt_zero _)
  | n + 1, t, h => by
    by_cases q : t < S a n
    · obtain ⟨m, h1, h2, h3, h4⟩ := mu_get a n t q
      refine ⟨m, by omega, h2, h3, ?_⟩
      show (Mu a n ++ List.replicate (a n) n)[t]? = _
      rw [List.getElem?_append_left (by rw [mu_len]; exact q)]; exact h4
    · have h : t < S a n + a n := h
      refine ⟨n, by omega, by omega, h, ?_⟩
      show (Mu a n ++ List.replicate (a n) n)[t]? = _
      rw [List.getElem?_append_right (by rw [mu_len]; omega), mu_len, List.getElem?_replicate, if_pos (by omega)]
theorem S_uniq {a : Nat → Nat} {m m' t : Nat} (h1 : S a m ≤ t) (h2 : t < S a (m + 1)) (h3 : S a m' ≤ t) (h4 : t < S a (m' + 1)) : m = m' := by
  rcases Nat.lt_trichotomy m m' with h | h | h
  · have := S_mono a (show m + 1 ≤ m' from h); omega
  · exact h
  · have := S_mono a (show m' + 1 ≤ m from h); omega
/-- how often the place x is bound to the k-th place of the row o -/
def cnt (sg : List Ed) (o : List Nat) (x : Nat) (k : Nat) : Nat := sg.countP fun p => decide (p.1 = o.getD k 0 ∧ p.2 = x)
def ups (sg : List Ed) (o : List Nat) (x : Nat) : List Nat := Mu (cnt sg o x) o.length
theorem sort_nat {L M : List Nat} (p : L.Perm M) (hs : M.Pairwise (· ≤ ·)) : (natI L).mergeSort (fun a b => decide (a ≤ b)) = natI M := by
  refine List.Perm.eq_of_pairwise (le := fun a b : Int => a ≤ b) (fun a b _ _ h1 h2 => by omega) ?_ ?_ ?_
  · refine (List.pairwise_mergeSort (le := fun a b : Int => decide (a ≤ b)) (fun a b c h1 h2 => ?_) (fun a b => ?_) (natI L)).imp fun h => of_decide_eq_true h
    · have := of_decide_eq_true h1; have := of_decide_eq_true h2; exact decide_eq_true (by omega)
    · rw [← Bool.decide_or]; exact decide_eq_true (Int.le_total a b)
  · exact List.pairwise_map.mpr (hs.imp fun h => by omega)
  · exact (List.mergeSort_perm _ _).trans (p.map _)
theorem idx_perm {sg : List Ed} {o : List Nat} {x : Nat} (no : o.Nodup) (hin : ∀ p ∈ sg, p.2 = x → p.1 ∈ o) : ((sg.filter fun p => decide (p.2 = x)).map fun p => o.idxOf p.1).Perm (ups sg o x) := by
  refine List.perm_iff_count.mpr fun i => ?_
  unfold ups
  rw [mu_count, List.count, List.countP_map, List.countP_filter]
  by_cases hi : i < o.length
  · rw [if_pos hi]
    unfold cnt
    refine List.countP_congr fun p hp => ?_
    simp only [Function.comp, Bool.and_eq_true, beq_iff_eq, decide_eq_true_eq]
    rw [List.getD_eq_getElem?_getD, List.getElem?_eq_getElem hi, Option.getD_some]
    constructor
    · rintro ⟨h1, h2⟩
      have hl := List.idxOf_lt_length_iff.mpr (hin p hp h2)
      have g := List.getElem_idxOf hl
      subst h1
      exact ⟨g.symm, h2⟩
    · rintro ⟨h1, h2⟩
      refine ⟨?_, h2⟩
      rw [h1]; exact no.idxOf_getElem i hi
  · rw [if_neg hi]
    refine List.countP_eq_zero.mpr fun p hp h => ?_
    simp only [Function.comp, Bool.and_eq_true, beq_iff_eq, decide_eq_true_eq] at h
    have hl := List.idxOf_lt_length_iff.mpr (hin p hp h.2)
    omega
def med (sg : List Ed) (o : List Nat) (x : Nat) : Int := if (ups sg o x).length = 0 then -1 else ((ups sg o x).getD (((ups sg o x).length - 1) / 2) 0 : Nat)
def trp (sg : List Ed) (o : List Nat) (x : Nat) : TriD := (med sg o x, decide ((ups sg o x).length % 2 = 0), (x : Int))
theorem even_eq (L : Nat) : decide (Int.fmod (L : Int) 2 = 0) = decide (L % 2 = 0) := by
  rw [Int.fmod_eq_emod_of_nonneg _ (by decide)]
  exact decide_eq_decide.mpr (by omega)
theorem ups_le (sg : List Ed) (o : List Nat) (x : Nat) (no : o.Nodup) (hin : ∀ p ∈ sg, p.2 = x → p.1 ∈ o) : (ups sg o x).length ≤ sg.length := by
  rw [← (idx_perm no hin).length_eq, List.length_map]
  exact List.length_filter_le _ _
/-- a row by medians -/
def ByMed (lv : List Nat) (sg : List Ed) (o : List Nat) (r : Nat) (got : List Nat) : Prop := got.Perm (placesAt lv r) ∧ got.Pairwise fun x y => lexT (triK (trp sg o x)) (triK (trp sg o y)) = true
theorem by_strict {sg : List Ed} {o got : List Nat} (nd : got.Nodup) (h : got.Pairwise fun x y => lexT (triK (trp sg o y)) (triK (trp sg o x)) = false) : got.Pairwise fun x y => lexT (triK (trp sg o x)) (triK (trp sg o y)) = true := by
  refine (List.pairwise_and_iff.mpr ⟨nd, h⟩).imp fun {x y} ⟨h1, h2⟩ => ?_
  have h2 := lexT_no.mp h2
  refine lexT_iff.mpr ?_
  have e1 : (triK (trp sg o x)).2.2 = (x : Int) := rfl
  have e2 : (triK (trp sg o y)).2.2 = (y : Int) := rfl
  omega
theorem o_ixX {X : PyData} {ds : List PyData} {j : Int} {e : PyData} {k : KO} (hX : X = .list ds ∨ X = .tuple ds) (h : atI ds j = some e) (q : k (e, false)) : fIx X (.int j) k := by
  rcases hX with rfl | rfl
  · exact o_ixL h q
  · exact o_ixT h q
abbrev tupsD (os : List (List Nat)) : List PyData := os.map fun o => .tuple (natD o)
def sv_median_order : VSp := fun ds k => ∃ lv sg d os r o X, NetOk lv sg d ∧ r + 1 < d ∧ os[r]? = some o ∧ o.Perm (placesAt lv r) ∧ (X = .list (tupsD os) ∨ X = .tuple (tupsD os)) ∧ ds = [netD lv sg, X, .int ((r + 1 : Nat) : Int)] ∧
  ∀ got, ByMed lv sg o (r + 1) got → k (.tuple (natD got), false)
abbrev g_median_order : FS := (vSeq (vAsg (vDc (vEnT (vOf (vOp fIx (vRef 1) (vOf (vOp fSub (vRef 2) (vOf (vC (.int 1)))))))) (gT 2 (gsCons (gN 4) (gsCons (gN 5) gsNil))) vYes (vVar 5) (vVar 4) [4, 5]) 3) (vSeq (vAsg (vLst vNil) 6) (vSeq (vFor (vItT (vOp fIx (vOf (vDef sv_places_by_level (vCons (vOf (vVar 0)) vNil))) (vRef 2))) (gN 5) (vSeq (vAsg (vCall fSortD (vCons (vOf (vLc (vItT (vOp fIx (vRef 0) (vOf (vC (.int 1))))) (gT 2 (gsCons (gN 8) (gsCons (gN 9) gsNil))) (vTest (vOp fEq (vRef 9) (vRef 5))) (vDGet (vRef 3) (vRef 8)) [8, 9])) vNil)) 7) (vSeq (vAsg (vIfE (vTru (vRef 7)) (vOp fIx (vRef 7) (vOf (vOp fDiv (vOf (vOp fSub (vOf (vCall fLen (vCons (vRef 7) vNil))) (vOf (vC (.int 1))))) (vOf (vC (.int 2)))))) (vUn fNeg (vOf (vC (.int 1))))) 10) (vSeq (vAsg (vOp fEq (vOf (vOp fMod (vOf (vCall fLen (vCons (vRef 7) vNil))) (vOf (vC (.int 2))))) (vOf (vC (.int 0)))) 11) (vDrop (vMut mAppend 6 (vCons (vOf (vTup (vCons (vOf (vVar 10)) (vCons (vOf (vVar 11)) (vCons (vOf (vVar 5)) vNil))))) vNil))))))) (vRet (vCall fTuple (vCons (vOf (vLc (vItL (vCall fSortD (vCons (vRef 6) vNil))) (gN 12) vYes (vOp fIx (vRef 12) (vOf (vC (.int 2)))) [12])) vNil))))))
theorem vf_median_order (ds : List PyData) (k : KO) (h : sv_median_order ds k) : ds.length = 3 ∧ g_median_order (ds.map Sl.fz ++ List.replicate (13 - ds.length) Sl.no) { nx := fun _ => k (.none, false), rt := fun r _ => k r } := by
  obtain ⟨lv, sg, d, os, r, o, X, ok, hr, eo, po, hX, rfl, hk⟩ := h
  refine ⟨rfl, ?_⟩
  have l60 := ok.lo.len
  have sl := ok.sl
  have ol : o.length ≤ 60 := by rw [po.length_eq]; have := places_len lv r; omega
  have no : o.Nodup := po.nodup_iff.mpr (places_nodup lv r)
  have ao := at_ord eo
  have ae : ((r + 1 : Nat) : Int) - 1 = (r : Nat) := by omega
  rw [← ae] at ao
  show g_median_order [.fz (.tuple [.tuple (natD lv), .tuple (edsD sg)]), .fz X, .fz (.int (r + 1 : Nat)), .no, .no, .no, .no, .no, .no, .no, .no, .no, .no] _
  walk_at "v"
  refine o_ixX hX ao ?_
  walk_at "v"
  refine dc_all o.zipIdx (fun p => .tuple [.int (p.2 : Nat), .int (p.1 : Nat)]) (fun p => .inl ((p.1 : Nat) : Int)) (fun p => PyData.int (p.2 : Nat)) ?_ ?_ (nodup_inl no) (fun p hp T hT => ?_) (fun s' w => ?_)
  · exact en_map (fun n : Nat => PyData.int n) o
  · rw [List.length_zipIdx]; omega
  · show EV.gT 2 _ (.tuple [.int (p.2 : Nat), .int (p.1 : Nat)]) _ _
    walk_at "v"
    exact hT _ rfl
  rw [EV.backV_same w]
  walk_at "v"
  refine ⟨lv, sg, d, ok.lo, rfl, ?_⟩
  have ap : atI ((List.range d).map fun r => PyData.tuple (natD (placesAt lv r))) ((r + 1 : Nat) : Int) = some (.tuple (natD (placesAt lv (r + 1)))) := atI_nat (by rw [List.getElem?_map, List.getElem?_range hr]; rfl)
  walk_at "v"
  refine for_inv (fun i s => ∃ x5 x7 x10 x11, s = [.fz (.tuple [.tuple (natD lv), .tuple (edsD sg)]), .fz X, .fz (.int (r + 1 : Nat)), .ow (.dict (idxEs o)), .no, x5, .ow (.list (((placesAt lv (r + 1)).take i).map fun x => triD (trp sg o x))), x7, .no, .no, x10, x11, .no]) ⟨_, _, _, _, rfl⟩ ?_ ?_
  · rintro i d s F hi ed ⟨x5, x7, x10, x11, rfl⟩ hF
    rw [natD_len] at hi
    rw [List.getElem?_map] at ed
    obtain ⟨x, ex, rfl⟩ := Option.map_eq_some_iff.mp ed
    have hin : ∀ p ∈ sg, p.2 = x → p.1 ∈ o := fun p hp e => by
      obtain ⟨h1, h2, h3⟩ := ok.so p hp
      have := (mem_places.mp (List.mem_of_getElem? ex)).2
      rw [e] at h3
      exact po.symm.subset (mem_places.mpr ⟨h1, by omega⟩)
    have pl := places_len lv (r + 1)
    have tl : (((placesAt lv (r + 1)).take i).map fun x => triD (trp sg o x)).length < sizeLine := by rw [List.length_map, List.length_take]; exact sz4' (by omega)
    have fin : ((placesAt lv (r + 1)).take (i + 1)).map (fun x => triD (trp sg o x)) = ((placesAt lv (r + 1)).take i).map (fun x => triD (trp sg o x)) ++ [triD (trp sg o x)] := by rw [take_succ_get ex, List.map_append]; rfl
    show vSeq _ _ [.fz (.tuple [.tuple (natD lv), .tuple (edsD sg)]), .fz X, .fz (.int (r + 1 : Nat)), .ow (.dict (idxEs o)), .no, .fz (.int x), .ow (.list (((placesAt lv (r + 1)).take i).map fun x => triD (trp sg o x))), x7, .no, .no, x10, x11, .no] _
    walk_at "v"
    refine lc_map sg edD (fun p => decide (p.2 = x)) (fun p => PyData.int (o.idxOf p.1 : Nat)) rfl (by omega) (fun p hp T2 T0 hT2 hT0 => ?_) (fun s' w => ?_)
    · show EV.gT 2 _ (.tuple [.int (p.1 : Nat), .int (p.2 : Nat)]) _ _
      walk_at "v"
      · rename_i h
        have hx : p.2 = x := by omega
        refine w_rd (es := idxEs o) (k := .int (p.1 : Nat)) rfl rfl (kind_idx _ _) (look_o (hin p hp hx)) ?_
        exact hT2 (decide_eq_true hx) _ rfl
      · rename_i h
        exact hT0 (decide_eq_false (by omega)) _ rfl
    rw [EV.backV_same w]
    have eL : ((sg.filter fun p => decide (p.2 = x)).map fun p => PyData.int (o.idxOf p.1 : Nat)) = (natI ((sg.filter fun p => decide (p.2 = x)).map fun p => o.idxOf p.1)).map .int := by unfold natI; rw [List.map_map, List.map_map]; rfl
    rw [eL]
    walk_at "v"
    refine o_sortIs rfl ?_
    have es : (natI ((sg.filter fun p => decide (p.2 = x)).map fun p => o.idxOf p.1)).mergeSort (fun a b => decide (a ≤ b)) = natI (ups sg o x) := sort_nat (idx_perm no hin) (mu_sorted _ _)
    rw [es, ← natD_ints]
    have u60 : (ups sg o x).length ≤ 1000 := Nat.le_trans (ups_le sg o x no hin) sl
    have done : ∀ (M : Int) (B : Bool) (x7 x10 x11 : Sl), trp sg o x = (M, B, (x : Int)) → F [.fz (.tuple [.tuple (natD lv), .tuple (edsD sg)]), .fz X, .fz (.int (r + 1 : Nat)), .ow (.dict (idxEs o)), .no, .fz (.int x), .ow (.list (((placesAt lv (r + 1)).take i).map (fun x => triD (trp sg o x)) ++ [.tuple [.int M, .bool B, .int x]])), x7, .no, .no, x10, x11, .no] := fun M B x7 x10 x11 e => by
      exact hF _ ⟨.fz (.int x), x7, x10, x11, by rw [fin, e]; rfl⟩
    rcases hU : ups sg o x with _ | ⟨u0, us⟩
    · walk_at "v"
      refine done _ _ _ _ _ ?_
      unfold trp med
      rw [hU]
      rfl
    · have ul : (natD (u0 :: us)).length = us.length + 1 := natD_len _
      rw [hU, List.length_cons] at u60
      have aM : atI (natD (u0 :: us)) ((((natD (u0 :: us)).length : Nat) - 1 : Int) / 2) = some (.int ((u0 :: us).getD (((u0 :: us).length - 1) / 2) 0 : Nat)) := by
        rw [show ((((natD (u0 :: us)).length : Nat) - 1 : Int) / 2) = ((((u0 :: us).length - 1) / 2 : Nat) : Int) from by rw [natD_len, List.length_cons]; omega]
        exact at_natG (by rw [List.length_cons]; omega)
      walk_at "v"
      refine done _ _ _ _ _ ?_
      unfold trp med
      rw [hU, if_neg (by rw [List.length_cons]; omega), even_eq, natD_len]
  rintro s ⟨x5, x7, x10, x11, rfl⟩
  rw [natD_len, List.take_length]
  have pl := places_len lv (r + 1)
  rw [show ((placesAt lv (r + 1)).map fun x => triD (trp sg o x)) = ((placesAt lv (r + 1)).map (trp sg o)).map triD from by rw [List.map_map]; rfl]
  walk_at "v"
  refine o_sortTs rfl fun ts' hp hs => ?_
  obtain ⟨got, rfl, pg⟩ := perm_map (trp sg o) hp
  walk_at "v"
  refine lc_all got (fun x => triD (trp sg o x)) (fun n : Nat => PyData.int n) ?_ ?_ (fun x hx T hT => ?_) (fun s' w => ?_)
  · rw [List.map_map]; rfl
  · rw [pg.length_eq]; omega
  · show gN 12 (.tuple [.int (med sg o x), .bool (decide ((ups sg o x).length % 2 = 0)), .int x]) _ _
    walk_at "v"
    exact hT _ rfl
  rw [EV.backV_same w]
  walk_at "v"
  exact hk got ⟨pg, by_strict (pg.nodup_iff.mpr (places_nodup lv (r + 1))) (List.pairwise_map.mp hs)⟩
structure Started (lv : List Nat) (sg : List Ed) (os : List (List Nat)) : Prop where
  perm : ∀ r (o : List Nat), os[r]? = some o → o.Perm (placesAt lv r)
  zero : ∀ o : List Nat, os[0]? = some o → o = placesAt lv 0
  med : ∀ r (o got : List Nat), os[r]? = some o → os[r + 1]? = some got → ByMed lv sg o (r + 1) got
theorem Started.nil (lv : List Nat) (sg : List Ed) : Started lv sg [] := ⟨fun r o h => by simp at h, fun o h => by simp at h, fun r o got h => by simp at h⟩
theorem Started.one (lv : List Nat) (sg : List Ed) : Started lv sg [placesAt lv 0] := ⟨fun r o h => by
  cases r with
  | zero => rw [show o = placesAt lv 0 from by simpa using h.symm]
  | succ r => simp at h, fun o h => by simpa using h.symm, fun r o got h h2 => by simp at h2⟩
theorem Started.snoc {lv : List Nat} {sg : List Ed} {os : List (List Nat)} {r : Nat} {o got : List Nat} (h : Started lv sg os) (l : os.length = r + 1) (eo : os[r]? = some o) (b : ByMed lv sg o (r + 1) got) : Started lv sg (os ++ [got]) := by
  have last : ∀ j x, (os ++ [got])[j]? = some x → (j < r + 1 ∧ os[j]? = some x) ∨ (j = r + 1 ∧ x = got) := fun j x h => by
    by_cases hj : j < os.length
    · rw [List.getElem?_append_left hj] at h; exact .inl ⟨by omega, h⟩
    · rw [List.getElem?_append_right (by omega)] at h
      have : j - os.length = 0 := by
        rcases Nat.eq_zero_or_pos (j - os.length) with q | q
        · exact q
        · rw [List.getElem?_eq_none (by simp; omega)] at h; cases h
      rw [this] at h
      exact .inr ⟨by omega, by simpa using h.symm⟩
  refine ⟨fun j x hx => ?_, fun x hx => ?_, fun j x y hx hy => ?_⟩
  · rcases last j x hx with ⟨_, q⟩ | ⟨rfl, rfl⟩
    · exact h.perm j x q
    · exact b.1
  · rcases last 0 x hx with ⟨_, q⟩ | ⟨q, _⟩
    · exact h.zero x q
    · omega
  · rcases last (j + 1) y hy with ⟨_, q⟩ | ⟨q, rfl⟩
    · rcases last j x hx with ⟨_, q2⟩ | ⟨q2, _⟩
      · exact h.med j x y q2 q
      · omega
    · rcases last j x hx with ⟨_, q2⟩ | ⟨q2, _⟩
      · have : j = r := by omega
        subst this
        rw [eo] at q2
        cases q2
        exact b
      · omega
theorem natD_flat : ∀ ks : List Nat, flatD (.tuple (natD ks)) = true
  | [] => rfl
  | k :: ks => natD_flat ks
def sv_start_orders : VSp := fun ds k => ∃ lv sg d, NetOk lv sg d ∧ ds = [netD lv sg] ∧ ∀ os, os.length = d → Started lv sg os → k (ordD os, false)
abbrev g_start_orders : FS := (vSeq (vAsg (vDef sv_places_by_level (vCons (vOf (vVar 0)) vNil)) 1) (vSeq (vAsg (vCall fList (vCons (vOf (vSl fSl (vRef 1) vNoPart (vPart (vC (.int 1))))) vNil)) 2) (vSeq (vFor (vRng2 (vCons (vOf (vC (.int 1))) (vCons (vOf (vCall fLen (vCons (vRef 1) vNil))) vNil))) (gN 3) (vDrop (vMut mAppend 2 (vCons (vOf (vDefF sv_median_order (vCons (vRef 0) (vCons (vRef 2) (vCons (vRef 3) vNil))))) vNil)))) (vRet (vCall fTuple (vCons (vRef 2) vNil))))))
theorem vf_start_orders (ds : List PyData) (k : KO) (h : sv_start_orders ds k) : ds.length = 1 ∧ g_start_orders (ds.map Sl.fz ++ List.replicate (4 - ds.length) Sl.no) { nx := fun _ => k (.none, false), rt := fun r _ => k r } := by
  obtain ⟨lv, sg, d, ok, rfl, hk⟩ := h
  refine ⟨rfl, ?_⟩
  have d40 := ok.lo.dl
  show g_start_orders [.fz (netD lv sg), .no, .no, .no] _
  walk_at "v"
  refine ⟨lv, sg, d, ok.lo, rfl, ?_⟩
  have tl : ((List.range d).map fun r => PyData.tuple (natD (placesAt lv r))).length = d := by rw [List.length_map, List.length_range]
  have cut : cutD ((List.range d).map fun r => PyData.tuple (natD (placesAt lv r))) none (some 1) = tupsD (if d = 0 then [] else [placesAt lv 0]) := by
    rw [cutD_take _ (by decide)]
    cases d with
    | zero => rfl
    | succ d => rw [List.range_succ_eq_map]; rfl
  walk_at "v"
  rw [cut]
  walk_at "v"
  refine for_inv (fun i s => ∃ os x3, s = [.fz (netD lv sg), .fz (.tuple ((List.range d).map fun r => .tuple (natD (placesAt lv r)))), .ow (.list (tupsD os)), x3] ∧ Started lv sg os ∧ (d = 0 → os = []) ∧ (0 < d → os.length = i + 1)) ⟨_, _, rfl, ?_, ?_, ?_⟩ ?_ ?_
  · by_cases h : d = 0
    · rw [if_pos h]; exact .nil lv sg
    · rw [if_neg h]; exact .one lv sg
  · intro h; rw [if_pos h]
  · intro h; rw [if_neg (by omega)]; rfl
  · rintro i dd s F hi ed ⟨os, x3, rfl, st, z, l⟩ hF
    rw [rg_len, tl] at hi
    have hr : i + 1 < d := by omega
    have l := l (by omega)
    have ed := rg_get ed
    rw [show (1 : Int) + (i : Int) = ((i + 1 : Nat) : Int) from by omega] at ed
    subst ed
    have eo : os[i]? = some os[i] := List.getElem?_eq_getElem (by omega)
    have ol : (tupsD os).length = i + 1 := by rw [List.length_map]; exact l
    show vDrop _ [.fz (netD lv sg), .fz (.tuple ((List.range d).map fun r => .tuple (natD (placesAt lv r)))), .ow (.list (tupsD os)), .fz (.int (i + 1 : Nat))] _
    walk_at "v"
    refine ⟨lv, sg, d, os, i, _, _, ok, hr, eo, st.perm _ _ eo, .inl rfl, rfl, fun got bm => ?_⟩
    refine ⟨rfl, natD_flat got, ?_⟩
    walk_at "v"
    refine hF _ ⟨os ++ [got], .fz (.int (i + 1 : Nat)), by rw [show tupsD (os ++ [got]) = tupsD os ++ [.tuple (natD got)] from List.map_append ..]; rfl, st.snoc l eo bm, fun h => by omega, fun _ => by rw [List.length_append, l]; rfl⟩
  · rintro s ⟨os, x3, rfl, st, z, l⟩
    rw [rg_len, tl] at l
    have ol : os.length = d := by
      by_cases h : d = 0
      · rw [z h, h]; rfl
      · have := l (by omega); omega
    walk_at "v"
    exact hk os ol st
section
variable {P : Program} {w : World} {K : PySem.W.Frag} {mg : Str → Option Value} {base : Heap}
theorem okv_places_by_level (T : Txt K mg) : FnOk P w K mg base CX0 1 T.f_places_by_level T.fd_places_by_level ["net"] (spV K sv_places_by_level) := by
  refine T.F_places_by_level.ok sc_places_by_level (fun vs H Q E h => by obtain ⟨N, ds, k, _, ra, hs, _⟩ := h; rw [ra.len, (vf_places_by_level ds k hs).1]; rfl) (fun cdv A outer s H vs Q E hr h => ?_)
  exact ⟨_, (pss_cons (ps_set (i := 1) sc_places_by_level.nd rfl (by first | exact Or.inl rfl | exact Or.inr rfl) (pe_ix (dIx K) (pv 0) pe_int (fun _ _ => rfl)))
   (pss_cons (ps_set (i := 2) sc_places_by_level.nd rfl (by first | exact Or.inl rfl | exact Or.inr rfl) (pe_op (dAddVZ K) (pe_callBK (dMaxDef K rfl hr.units) (by rfl) T.n_max (by decide +kernel) (pa_cons (pv 1) pa_nil) (pk_cons (pe_un un_neg pe_int) pk_nil)) pe_int))
   (pss_one (ps_ret (pe_callTy (dTupleZ K) (by rfl) T.n_tuple (by decide +kernel) (pa_cons (pe_lc (own := [("level", 5)]) (g := gName 5) (tt := tYes) rfl sc_places_by_level.nd  (pi_range1 rfl T.n_range (pa_cons (pv 2) pa_nil)) (blkOk_by (own := [("level", 5)]) (N := ["net", "levels", "many", "place", "at", "level"]) (sc := defScope s_places_by_level) (by decide +kernel)) (fun _ _ _ _ _ => (pg_name (i := 5) sc_places_by_level.nd rfl (by first | exact Or.inl rfl | exact Or.inr rfl))) (fun _ _ _ _ _ => pts_nil) (fun _ _ _ _ _ => (pe_callTy (dTupleZ K) (by rfl) T.n_tuple (by decide +kernel) (pa_cons (pe_lc (own := [("place", 3), ("at", 4)]) (g := gTup K 2 (gCons (gName 3) (gCons (gName 4) (gNil)))) rfl sc_places_by_level.nd  (dpi_enumZ K (by rfl) T.n_enumerate (pa_cons (pv 1) pa_nil)) (blkOk_by (own := [("place", 3), ("at", 4)]) (N := ["net", "levels", "many", "place", "at", "level"]) (by rfl)) (fun _ _ _ _ _ => (dpg_tup K (n := 2) (by rfl) (pgs_cons (pg_name (i := 3) sc_places_by_level.nd rfl (by first | exact Or.inl rfl | exact Or.inr rfl)) (pgs_cons (pg_name (i := 4) sc_places_by_level.nd rfl (by first | exact Or.inl rfl | exact Or.inr rfl)) pgs_nil)))) (fun _ _ _ _ _ => (pts_one (pt_cmpR (dEqV K hr.units) (pv 4) (pv 5) (nomark _)))) (fun _ _ _ _ _ => (pv 3))) pa_nil)))) pa_nil)))))), run_V (ls_seq (ls_asg (le_op ol_ix lb_ref (lb_of (le_c fun _ _ => .int _)))) (ls_seq (ls_asg (le_op ol_add (lb_of (le_cbk ol_maxDef (la_cons lb_ref la_nil) (la_cons (lb_of (le_un ol_neg (lb_of (le_c fun _ _ => .int _)))) la_nil))) (lb_of (le_c fun _ _ => .int _)))) (ls_ret (le_cb ol_tuple (la_cons (lb_of (le_lc (li_rng1 (la_cons lb_ref la_nil)) lg_name (gin_name (by decide)) lt_yes (le_cb ol_tuple (la_cons (lb_of (le_lc (li_enumT (lb_of le_var)) (lg_tup (lgs_cons lg_name (lgs_cons lg_name lgs_nil))) (gin_tup (gin_cons (gin_name (by decide)) (gin_cons (gin_name (by decide)) gin_nil))) (lt_test (le_op ol_eq lb_ref lb_ref)) le_var)) la_nil)))) la_nil))))) (fun ds k hs => ⟨by rw [(vf_places_by_level ds k hs).1]; decide, (vf_places_by_level ds k hs).2⟩) h⟩
theorem okv_median_order (T : Txt K mg) : FnOk P w K mg base CX0 2 T.f_median_order T.fd_median_order ["net", "orders", "level"] (spV K sv_median_order) := by
  refine T.F_median_order.ok sc_median_order (fun vs H Q E h => by obtain ⟨N, ds, k, _, ra, hs, _⟩ := h; rw [ra.len, (vf_median_order ds k hs).1]; rfl) (fun cdv A outer s H vs Q E hr h => ?_)
  exact ⟨_, (pss_cons (ps_set (i := 3) sc_median_order.nd rfl (by first | exact Or.inl rfl | exact Or.inr rfl) (pe_dc (own := [("at", 4), ("place", 5)]) (g := gTup K 2 (gCons (gName 4) (gCons (gName 5) (gNil)))) (tt := tYes) rfl sc_median_order.nd (dpi_enumZ K (by rfl) T.n_enumerate (pa_cons (pe_ix (dIx K) (pv 1) (pe_op dSub (pv 2) pe_int) (fun _ _ => rfl)) pa_nil)) (blkOk_by (own := [("at", 4), ("place", 5)]) (N := ["net", "orders", "level", "indexes", "at", "place", "rows", "found", "upper", "lower", "median", "is_even", "row"]) (sc := defScope s_median_order) (by decide +kernel)) (fun _ _ _ _ _ => (dpg_tup K (n := 2) (by rfl) (pgs_cons (pg_name (i := 4) sc_median_order.nd rfl (by first | exact Or.inl rfl | exact Or.inr rfl)) (pgs_cons (pg_name (i := 5) sc_median_order.nd rfl (by first | exact Or.inl rfl | exact Or.inr rfl)) pgs_nil)))) (fun _ _ _ _ _ => pts_nil) (fun _ _ _ _ _ => (pv 5)) (fun _ _ _ _ _ => (pv 4))))
   (pss_cons (ps_set (i := 6) sc_median_order.nd rfl (by first | exact Or.inl rfl | exact Or.inr rfl) (pe_lst pa_nil))
   (pss_cons (ps_for PassesOwn.never rfl (dpi_tup K (pe_ix (dIx K) (pe_call (okv_places_by_level T) (hr.mono (by omega)) (by rfl) T.g_places_by_level T.F_places_by_level.kp T.b_places_by_level .nil pass0 (pa_cons (pv 0) pa_nil)) (pv 2) (fun _ _ => rfl))) (pg_name (i := 5) sc_median_order.nd rfl (by first | exact Or.inl rfl | exact Or.inr rfl))
    (pss_cons (ps_set (i := 7) sc_median_order.nd rfl (by first | exact Or.inl rfl | exact Or.inr rfl) (pe_callB (dSortD K hr.units) (by rfl) T.n_sorted (by decide +kernel) (pa_cons (pe_lc (own := [("upper", 8), ("lower", 9)]) (g := gTup K 2 (gCons (gName 8) (gCons (gName 9) (gNil)))) rfl sc_median_order.nd  (dpi_tup K (pe_ix (dIx K) (pv 0) pe_int (fun _ _ => rfl))) (blkOk_by (own := [("upper", 8), ("lower", 9)]) (N := ["net", "orders", "level", "indexes", "at", "place", "rows", "found", "upper", "lower", "median", "is_even", "row"]) (sc := defScope s_median_order) (by decide +kernel)) (fun _ _ _ _ _ => (dpg_tup K (n := 2) (by rfl) (pgs_cons (pg_name (i := 8) sc_median_order.nd rfl (by first | exact Or.inl rfl | exact Or.inr rfl)) (pgs_cons (pg_name (i := 9) sc_median_order.nd rfl (by first | exact Or.inl rfl | exact Or.inr rfl)) pgs_nil)))) (fun _ _ _ _ _ => (pts_one (pt_cmpR (dEqV K hr.units) (pv 9) (pv 5) (nomark _)))) (fun _ _ _ _ _ => (pe_dget (hu_of hr) (pv 3) (pv 8) (fun _ _ => rfl)))) pa_nil)))
    (pss_cons (ps_set (i := 10) sc_median_order.nd rfl (by first | exact Or.inl rfl | exact Or.inr rfl) (pe_ifExp (pt_truth (pv 7) (by intro _; rfl)) (pe_ix (dIx K) (pv 7) (pe_op dDiv (pe_op dSub (pe_callB (dLen K) (by rfl) T.n_len (by decide +kernel) (pa_cons (pv 7) pa_nil)) pe_int) pe_int) (fun _ _ => rfl)) (pe_un un_neg pe_int)))
    (pss_cons (ps_set (i := 11) sc_median_order.nd rfl (by first | exact Or.inl rfl | exact Or.inr rfl) (pe_cmpR (dEqV K hr.units) (pe_op dMod (pe_callB (dLen K) (by rfl) T.n_len (by decide +kernel) (pa_cons (pv 7) pa_nil)) pe_int) pe_int (nomark _)))
    (pss_one (ps_expr (pe_bm PySem.F.plainAttrs_list PySem.F.slot_list_append PySem.F.type_list_append mt_append (pv 6) (pa_cons (pe_tupZ (pa_cons (pv 10) (pa_cons (pv 11) (pa_cons (pv 5) pa_nil)))) pa_nil))))))))
   (pss_one (ps_ret (pe_callTy (dTupleZ K) (by rfl) T.n_tuple (by decide +kernel) (pa_cons (pe_lc (own := [("row", 12)]) (g := gName 12) (tt := tYes) rfl sc_median_order.nd  (dpi_list K (pe_callB (dSortD K hr.units) (by rfl) T.n_sorted (by decide +kernel) (pa_cons (pv 6) pa_nil))) (blkOk_by (own := [("row", 12)]) (N := ["net", "orders", "level", "indexes", "at", "place", "rows", "found", "upper", "lower", "median", "is_even", "row"]) (sc := defScope s_median_order) (by decide +kernel)) (fun _ _ _ _ _ => (pg_name (i := 12) sc_median_order.nd rfl (by first | exact Or.inl rfl | exact Or.inr rfl))) (fun _ _ _ _ _ => pts_nil) (fun _ _ _ _ _ => (pe_ix (dIx K) (pv 12) pe_int (fun _ _ => rfl)))) pa_nil))))))), run_V (ls_seq (ls_asg (le_dc (li_enumT (lb_of (le_op ol_ix lb_ref (lb_of (le_op ol_sub lb_ref (lb_of (le_c fun _ _ => .int _))))))) (lg_tup (lgs_cons lg_name (lgs_cons lg_name lgs_nil))) (gin_tup (gin_cons (gin_name (by decide)) (gin_cons (gin_name (by decide)) gin_nil))) lt_yes le_var le_var)) (ls_seq (ls_asg (le_lst la_nil)) (ls_seq (ls_for (li_tup (le_op ol_ix (lb_of (le_def (la_cons (lb_of le_var) la_nil))) lb_ref)) lg_name (ls_seq (ls_asg (le_cb ol_sortD (la_cons (lb_of (le_lc (li_tup (le_op ol_ix lb_ref (lb_of (le_c fun _ _ => .int _)))) (lg_tup (lgs_cons lg_name (lgs_cons lg_name lgs_nil))) (gin_tup (gin_cons (gin_name (by decide)) (gin_cons (gin_name (by decide)) gin_nil))) (lt_test (le_op ol_eq lb_ref lb_ref)) (le_dget lb_ref lb_ref))) la_nil))) (ls_seq (ls_asg (le_ifE (lt_tru lb_ref) (le_op ol_ix lb_ref (lb_of (le_op ol_div (lb_of (le_op ol_sub (lb_of (le_cb ol_len (la_cons lb_ref la_nil))) (lb_of (le_c fun _ _ => .int _)))) (lb_of (le_c fun _ _ => .int _))))) (le_un ol_neg (lb_of (le_c fun _ _ => .int _))))) (ls_seq (ls_asg (le_op ol_eq (lb_of (le_op ol_mod (lb_of (le_cb ol_len (la_cons lb_ref la_nil))) (lb_of (le_c fun _ _ => .int _)))) (lb_of (le_c fun _ _ => .int _)))) (ls_drop (le_mut ml_append (la_cons (lb_of (le_tup (la_cons (lb_of le_var) (la_cons (lb_of le_var) (la_cons (lb_of le_var) la_nil))))) la_nil))))))) (ls_ret (le_cb ol_tuple (la_cons (lb_of (le_lc (li_lst (le_cb ol_sortD (la_cons lb_ref la_nil))) lg_name (gin_name (by decide)) lt_yes (le_op ol_ix lb_ref (lb_of (le_c fun _ _ => .int _))))) la_nil)))))) (fun ds k hs => ⟨by rw [(vf_median_order ds k hs).1]; decide, (vf_median_order ds k hs).2⟩) h⟩
theorem okv_start_orders (T : Txt K mg) : FnOk P w K mg base CX0 3 T.f_start_orders T.fd_start_orders ["net"] (spV K sv_start_orders) := by
  refine T.F_start_orders.ok sc_start_orders (fun vs H Q E h => by obtain ⟨N, ds, k, _, ra, hs, _⟩ := h; rw [ra.len, (vf_start_orders ds k hs).1]; rfl) (fun cdv A outer s H vs Q E hr h => ?_)
  exact ⟨_, (pss_cons (ps_set (i := 1) sc_start_orders.nd rfl (by first | exact Or.inl rfl | exact Or.inr rfl) (pe_call (okv_places_by_level T) (hr.mono (by omega)) (by rfl) T.g_places_by_level T.F_places_by_level.kp T.b_places_by_level .nil pass0 (pa_cons (pv 0) pa_nil)))
   (pss_cons (ps_set (i := 2) sc_start_orders.nd rfl (by first | exact Or.inl rfl | exact Or.inr rfl) (pe_callTy (dList K) (by rfl) T.n_list (by decide +kernel) (pa_cons (pe_slice (dSlVZ K) (pv 1) po_none (po_some pe_int)) pa_nil)))
   (pss_cons (ps_for PassesOwn.never rfl (pi_range2 rfl T.n_range (pa_cons pe_int (pa_cons (pe_callB (dLen K) (by rfl) T.n_len (by decide +kernel) (pa_cons (pv 1) pa_nil)) pa_nil))) (pg_name (i := 3) sc_start_orders.nd rfl (by first | exact Or.inl rfl | exact Or.inr rfl))
    (pss_one (ps_expr (pe_bm PySem.F.plainAttrs_list PySem.F.slot_list_append PySem.F.type_list_append mt_append (pv 2) (pa_cons (pe_call (okv_median_order T) (hr.mono (by omega)) (by rfl) T.g_median_order T.F_median_order.kp T.b_median_order .nil pass0 (pa_cons (pv 0) (pa_cons (pv 2) (pa_cons (pv 3) pa_nil)))) pa_nil)))))
   (pss_one (ps_ret (pe_callTy (dTupleZ K) (by rfl) T.n_tuple (by decide +kernel) (pa_cons (pv 2) pa_nil))))))), run_V (ls_seq (ls_asg (le_def (la_cons (lb_of le_var) la_nil))) (ls_seq (ls_asg (le_cb ol_list (la_cons (lb_of (le_sl ol_sl lb_ref lo_no (lo_part (le_c fun _ _ => .int _)))) la_nil))) (ls_seq (ls_for (li_rng2 (la_cons (lb_of (le_c fun _ _ => .int _)) (la_cons (lb_of (le_cb ol_len (la_cons lb_ref la_nil))) la_nil))) lg_name (ls_drop (le_mut ml_append (la_cons (lb_of (le_defF (la_cons lb_ref (la_cons lb_ref (la_cons lb_ref la_nil))))) la_nil)))) (ls_ret (le_cb ol_tuple (la_cons lb_ref la_nil)))))) (fun ds k hs => ⟨by rw [(vf_start_orders ds k hs).1]; decide, (vf_start_orders ds k hs).2⟩) h⟩
end
end K63
namespace K63
open PySem PySem.Spec PyProof.Rows L2 D0 EV
/- walking through a body's meaning -/
local macro_rules | `(tactic| walk_at "vsz") => `(tactic| first | assumption | decide | omega | exact Nat.le_of_ble_eq_true rfl | (simp only [List.length_map, List.length_append, List.length_cons, List.length_nil, List.length_range, List.length_replicate, List.length_reverse, rg_len]; first | decide | omega) | exact sz4 (by omega) | exact sz4' (by omega) | (simp only [List.length_map, List.length_append, List.length_cons, List.length_nil, List.length_range, List.length_replicate, List.length_reverse, rg_len, Str.length_append, len1, strD_len]; first | exact sz4 (by omega) | exact sz4' (by omega)))
local macro_rules | `(tactic| walk_at "vat") => `(tactic| first | assumption | rfl | exact atI_nat (j := 0) rfl | exact atI_nat (j := 1) rfl | exact atI_nat (j := 2) rfl)
local macro_rules | `(tactic| walk_at "vmul") => `(tactic| first | exact .inr ⟨by decide, by decide⟩ | exact .inl ⟨by omega, by omega⟩ | exact .inr ⟨by omega, by omega⟩)
local macro_rules | `(tactic| walk_at "vdiv") => `(tactic| with_reducible first | exact div97 | exact div3 | exact div2 | exact div_m (by omega) (by omega))
local macro_rules | `(tactic| walk_at "v") => `(tactic| repeat' walk_at "v1")
local macro_rules | `(tactic| walk_at "vA") => `(tactic| with_reducible first
  | refine w_seq ?_
  | refine w_asg ?_
  | refine w_asgG ?_
  | refine w_of ?_
  | refine w_c ?_
  | refine w_op ?_
  | refine w_un ?_
  | refine w_call ?_
  | refine w_nil ?_
  | refine w_cons ?_
  | refine w_if ?_
  | refine w_ret ?_
  | refine w_retN ?_
  | refine w_drop ?_
  | refine w_pass ?_
  | refine w_brk ?_
  | refine w_cnt ?_
  | refine w_test ?_
  | refine w_and ?_
  | refine w_or ?_
  | refine w_not ?_
  | refine w_yes ?_
  | refine w_andV ?_
  | refine w_orV ?_
  | refine w_notV ?_
  | refine w_ifE ?_
  | refine w_chain ?_
  | refine w_b ?_
  | refine w_i ?_
  | refine w_s ?_
  | refine w_def ?_
  | refine w_defF ?_
  | refine w_isi ?_
  | refine w_star ?_
  | refine w_noPart ?_
  | refine w_part ?_
  | refine w_sl ?_
  | refine w_rev ?_
  | refine w_tup ?_
  | refine w_par ?_
  | refine w_parV ?_
  | refine w_lst ?_
  | refine w_join ?_
  | refine w_dget ?_
  | refine w_din ?_
  | refine w_for ?_
  | refine w_rng1 ?_
  | refine w_rng2 ?_
  | refine w_itL ?_
  | refine w_itT ?_
  | refine w_itS ?_
  | refine w_lc ?_
  | refine w_lc2 ?_
  | refine w_dict ?_
  | refine w_pnil ?_
  | refine w_pcons ?_
  | refine w_gN ?_
  | refine w_gT rfl ?_
  | refine w_gsNil ?_
  | refine w_gsCons ?_
  | refine o_addI ?_
  | refine o_sub ?_
  | refine o_lt ?_
  | refine o_le ?_
  | refine o_gt ?_
  | refine o_ge ?_
  | refine o_eqI ?_
  | refine o_eqS ?_
  | refine o_neI ?_
  | refine o_neS ?_
  | refine o_isN ?_
  | refine o_notN ?_
  | refine o_slL ?_
  | refine o_slT ?_
  | refine o_revL ?_
  | refine o_revT ?_
  | refine o_neg ?_
  | refine o_lenL ?_
  | refine o_lenT ?_
  | refine o_int ?_
  | refine o_intB ?_
  | refine o_strS ?_
  | refine o_strB ?_
  | refine o_abs ?_
  | refine o_max2 ?_
  | refine o_min2 ?_
  | refine o_list ?_
  | refine o_listT ?_
  | refine o_tup ?_
  | refine o_tupT ?_
  | refine o_sum ?_
  | refine w_lrg ?_
  | refine w_dc ?_
  | refine w_cnt1 ?_
  | refine w_callK ?_
  | refine w_dput ?_
  | refine w_tm ?_
  | refine o_neBs ?_
  | refine o_eqTs ?_
  | refine w_enT ?_
  | refine w_enL ?_
  | refine o_maxDef ?_
  | refine w_tru ?_
  | refine o_eqP ?_
  | refine o_eqIs ?_
  | refine o_neIs ?_
  | refine w_trg ?_
  | refine w_setL ?_
  | refine iteT ?_
  | refine iteF ?_)
local macro_rules | `(tactic| walk_at "v1") => `(tactic| first
  | walk_at "vA"
  | ((with_reducible refine' w_ref ?h ?_); (case h => rfl))
  | ((with_reducible refine' w_varF ?h ?_); (case h => rfl))
  | ((with_reducible refine' w_varO ?h ?_); (case h => rfl))
  | ((with_reducible refine' w_movF ?h ?_); (case h => rfl))
  | ((with_reducible refine' w_movO ?h ?_); (case h => rfl))
  | ((with_reducible refine' w_r2 ?h ?h2 ?_); (case h => rfl); (case h2 => rfl))
  | ((with_reducible refine' w_r1 ?h ?_); (case h => rfl))
  | ((with_reducible refine' w_ra ?h ?_); (case h => rfl))
  | ((with_reducible refine' w_ra2 ?h ?h2 ?_); (case h => rfl); (case h2 => rfl))
  | ((with_reducible refine' w_trx ?h ?h2 ?_); (case h => rfl); (case h2 => rfl))
  | ((with_reducible refine' o_inT ?h ?h2 ?_); (case h => first | rfl | assumption); (case h2 => first | assumption | rfl))
  | ((with_reducible refine' o_ninT ?h ?h2 ?_); (case h => first | rfl | assumption); (case h2 => first | assumption | rfl))
  | ((with_reducible refine' w_tmA ?h ?c ?_); (case h => rfl); (case c => first | rfl | assumption))
  | ((with_reducible refine' w_tmB ?h ?c ?h2 ?_); (case h => rfl); (case c => first | rfl | assumption); (case h2 => rfl))
  | ((with_reducible refine' w_disp ?h ?l ?_); (case h => rfl); (case l => walk_at "vsz"))
  | ((with_reducible refine' w_keys ?h ?nd ?l ?_); (case h => rfl); (case nd => decide); (case l => exact Nat.le_of_ble_eq_true rfl))
  | ((with_reducible refine' w_va ?h ?_); (case h => rfl))
  | ((with_reducible refine' w_mu ?h ?h2 ?_); (case h => rfl); (case h2 => rfl))
  | ((with_reducible refine' w_bag ?h ?_); (case h => rfl))
  | ((with_reducible refine' w_mut ?h ?_); (case h => rfl))
  | ((with_reducible refine' w_ri ?h ?h2 ?_); (case h => rfl); (case h2 => first | exact isi_bool_bool | exact isi_bool_int | exact isi_bool_str | exact isi_bool_list | exact isi_bool_tuple | exact isi_int_bool | exact isi_int_int | exact isi_int_str | exact isi_int_list | exact isi_int_tuple | exact isi_str_bool | exact isi_str_int | exact isi_str_str | exact isi_str_list | exact isi_str_tuple | exact isi_list_bool | exact isi_list_int | exact isi_list_str | exact isi_list_list | exact isi_list_tuple | exact isi_tuple_bool | exact isi_tuple_int | exact isi_tuple_str | exact isi_tuple_list | exact isi_tuple_tuple))
  | ((with_reducible refine' o_draw ?h ?h2 (fun r r0 r1 => ?_)); (case h => first | decide | omega); (case h2 => first | decide | exact lt_big (by omega)))
  | ((with_reducible refine' o_addS ?h ?_); (case h => walk_at "vsz"))
  | ((with_reducible refine' o_addL ?h ?_); (case h => walk_at "vsz"))
  | ((with_reducible refine' o_addT ?h ?_); (case h => walk_at "vsz"))
  | ((with_reducible refine' o_mulS ?h ?_); (case h => exact ⟨by omega, by omega, by (simp only [len1, Str.length_append]; omega)⟩))
  | ((with_reducible refine' o_mulI ?h ?_); (case h => walk_at "vmul"))
  | ((with_reducible refine' o_mod ?h ?_); (case h => first | decide | omega))
  | ((with_reducible refine' o_div ?h ?_); (case h => walk_at "vdiv"))
  | ((with_reducible refine' o_ixL ?h ?_); (case h => walk_at "vat"))
  | ((with_reducible refine' o_ixT ?h ?_); (case h => walk_at "vat"))
  | ((with_reducible refine' o_lenS ?h ?_); (case h => walk_at "vsz"))
  | ((with_reducible refine' o_slS ?h ?_); (case h => walk_at "vsz"))
  | ((with_reducible refine' o_isB ?h ?_); (case h => rfl))
  | ((with_reducible refine' o_in ?h ?f ?fa ?_); (case h => rfl); (case f => rfl); (case fa => first | rfl | assumption))
  | ((with_reducible refine' o_in2F ?h ?f ?fa ?_); (case h => rfl); (case f => rfl); (case fa => first | rfl | assumption))
  | ((with_reducible refine' o_nin2F ?h ?f ?fa ?_); (case h => rfl); (case f => rfl); (case fa => first | rfl | assumption))
  | ((with_reducible refine' o_inP ?h ?h2 ?_); (case h => first | rfl | assumption); (case h2 => first | assumption | rfl))
  | ((with_reducible refine' o_ninP ?h ?h2 ?_); (case h => first | rfl | assumption); (case h2 => first | assumption | rfl))
  | ((with_reducible refine' o_nin ?h ?f ?fa ?_); (case h => rfl); (case f => rfl); (case fa => first | rfl | assumption))
  | ((with_reducible refine' m_app ?h ?_); (case h => walk_at "vsz"))
  | ((with_reducible refine' m_ext ?h ?_); (case h => walk_at "vsz"))
  | ((with_reducible refine' w_rj ?h ?h1 ?h2 ?_); (case h => rfl); (case h1 => omega); (case h2 => omega))
  | ((with_reducible refine' w_rd ?h ?h2 ?h3 ?h4 ?_); (case h => rfl); (case h2 => rfl); (case h3 => rfl); (case h4 => rfl))
  | ((with_reducible refine' w_rdi ?h ?h2 ?h3 ?_); (case h => rfl); (case h2 => rfl); (case h3 => rfl))
  | ((with_reducible refine' iteTr ?h ?_); (case h => first | rfl | decide))
  | ((with_reducible refine' iteFr ?h ?_); (case h => first | rfl | decide))
  | ((with_reducible refine' w_rk ?h ?h1 ?_); (case h => rfl); (case h1 => omega))
  | ((with_reducible refine' w_lcB ?h ?_); (case h => rfl))
  | ((with_reducible refine' w_lri ?h ?_); (case h => unfold RgOk; omega))
  | ((with_reducible refine' w_aug ?h ?_); (case h => rfl))
  | ((with_reducible refine' w_setA ?h ?_); (case h => rfl))
  | ((with_reducible refine' w_dputA ?h ?_); (case h => rfl))
  | ((with_reducible refine' m_ins ?h ?h0 ?h1 ?_); (case h => walk_at "vsz"); (case h0 => omega); (case h1 => omega))
  | ((with_reducible refine' w_setB ?h ?h2 ?_); (case h => rfl); (case h2 => assumption))
  | (with_reducible refine iteD (fun h => ?_) (fun h => ?_))
  | (with_reducible refine iteND (fun h => ?_) (fun h => ?_))
  | (with_reducible refine iteB (fun h => ?_) (fun h => ?_))
  | (refine ⟨_, rfl, ?_⟩)
  | fail
  )

theorem rowsD_len (lv : List Nat) (d : Nat) : (rowsD lv d).length = d := by unfold rowsD; rw [List.length_map, List.length_range]
theorem at_rows {lv : List Nat} {d r : Nat} (h : r < d) : atI (rowsD lv d) (r : Nat) = some (.list (natD (placesAt lv r))) := atI_nat (by unfold rowsD; rw [List.getElem?_map, List.getElem?_range h]; rfl)
theorem places_sorted (lv : List Nat) (r : Nat) : (placesAt lv r).Pairwise (· ≤ ·) := (List.Pairwise.filter _ (List.pairwise_lt_range)).imp fun h => Nat.le_of_lt h
theorem eds_shaped (ps : List Ed) : SeqAt.shaped (.tuple (edsD ps)) = true := by
  have h : PyData.canLayAll0 (edsD ps) = true ∧ PyData.depthAll (edsD ps) ≤ 1 := by
    induction ps with
    | nil => exact ⟨rfl, Nat.zero_le _⟩
    | cons p ps ih =>
      refine ⟨?_, ?_⟩
      · show (PyData.canLay0 (edD p) && PyData.canLayAll0 (edsD ps)) = true
        rw [ih.1]; rfl
      · show max (PyData.depth (edD p)) (PyData.depthAll (edsD ps)) ≤ 1
        exact Nat.max_le.mpr ⟨Nat.le_refl _, ih.2⟩
  unfold SeqAt.shaped
  have d2 : PyData.depth (.tuple (edsD ps)) ≤ 64 := by show PyData.depthAll (edsD ps) + 1 ≤ 64; omega
  rw [Bool.and_eq_true]
  exact ⟨h.1, decide_eq_true d2⟩
theorem eds_const (ps : List Ed) : constS (edsD ps) = false := by
  cases ps with
  | nil => rfl
  | cons p ps =>
    unfold constS
    rw [Bool.and_eq_false_iff]
    exact .inr rfl
def cn (sg : List Ed) (x u : Nat) : Nat := sg.countP fun p => decide (p.1 = u ∧ p.2 = x)
theorem eds_count (sg : List Ed) (u x : Nat) : ((edsD sg).countP fun z => PyData.eqv z (.tuple [.int u, .int x])) = cn sg x u := by
  unfold edsD cn
  rw [List.countP_map]
  refine List.countP_congr fun p _ => ?_
  show PyData.eqv (.tuple [.int p.1, .int p.2]) (.tuple [.int u, .int x]) = true ↔ _
  rw [eqv_pair, ← Bool.decide_and, decide_eq_true_eq, decide_eq_true_eq]
  omega
theorem sum_S {ks : List Nat} {a : Nat → Nat} (h : ∀ i x, ks[i]? = some x → a i = x) : ∀ n, n ≤ ks.length → (natI (ks.take n)).sum = (S a n : Nat)
  | 0, _ => rfl
  | n + 1, hn => by
    have e : ks[n]? = some ks[n] := List.getElem?_eq_getElem (by omega)
    rw [take_succ_get e]
    show ((ks.take n ++ [ks[n]]).map fun n : Nat => (n : Int)).sum = ((S a n + a n : Nat) : Int)
    rw [List.map_append, List.sum_append, h n _ e]
    have := sum_S h n (by omega)
    unfold natI at this
    rw [this]
    simp
theorem med_none {sg : List Ed} {o : List Nat} {x : Nat} (h : S (cnt sg o x) o.length = 0) : med sg o x = -1 := by
  unfold med ups
  rw [mu_len, if_pos h]
theorem med_some {sg : List Ed} {o : List Nat} {x j : Nat} (h0 : 0 < S (cnt sg o x) o.length) (h1 : S (cnt sg o x) j ≤ (S (cnt sg o x) o.length - 1) / 2) (h2 : (S (cnt sg o x) o.length - 1) / 2 < S (cnt sg o x) (j + 1)) : med sg o x = (j : Nat) := by
  obtain ⟨m, _, m1, m2, e⟩ := mu_get (cnt sg o x) o.length ((S (cnt sg o x) o.length - 1) / 2) (by omega)
  unfold med ups
  rw [mu_len, if_neg (by omega), List.getD_eq_getElem?_getD, e, S_uniq h1 h2 m1 m2]; rfl
def kyD (t : TriD) : PyData := .tuple ([(triK t).1, (triK t).2.1, (triK t).2.2].map .int)
def sv_law_key : VSp := fun ds k => ∃ lv sg o x, sg.length ≤ 1000 ∧ o.length ≤ 60 ∧ ds = [netD lv sg, .tuple (natD o), .int (x : Nat)] ∧ k (kyD (trp sg o x), false)
abbrev g_law_key : FS := (vSeq (vAsg (vLc (vItT (vVar 1)) (gN 4) vYes (vTM fTCount (vOf (vOp fIx (vRef 0) (vOf (vC (.int 1))))) (vCons (vOf (vTup (vCons (vOf (vVar 4)) (vCons (vOf (vVar 2)) vNil)))) vNil)) [4]) 3) (vSeq (vAsg (vCall fSum (vCons (vRef 3) vNil)) 5) (vSeq (vAsg (vUn fNeg (vOf (vC (.int 1)))) 6) (vSeq (vAsg (vC (.int 0)) 7) (vSeq (vFor (vRng1 (vCons (vOf (vCall fLen (vCons (vRef 3) vNil))) vNil)) (gN 8) (vSeq (vAsg (vOp fAdd (vRef 7) (vOf (vOp fIx (vRef 3) (vRef 8)))) 7) (vIf (vAnd (vTest (vOp fLt (vRef 6) (vOf (vC (.int 0))))) (vAnd (vTest (vOp fGt (vRef 5) (vOf (vC (.int 0))))) (vTest (vOp fGt (vRef 7) (vOf (vOp fDiv (vOf (vOp fSub (vRef 5) (vOf (vC (.int 1))))) (vOf (vC (.int 2))))))))) (vAsg (vVar 8) 6) vPass))) (vRet (vTup (vCons (vOf (vVar 6)) (vCons (vOf (vOp fSub (vOf (vC (.int 1))) (vOf (vOp fMod (vOf (vCall fInt (vCons (vRef 5) vNil))) (vOf (vC (.int 2))))))) (vCons (vOf (vVar 2)) vNil))))))))))
theorem vf_law_key (ds : List PyData) (k : KO) (h : sv_law_key ds k) : ds.length = 3 ∧ g_law_key (ds.map Sl.fz ++ List.replicate (9 - ds.length) Sl.no) { nx := fun _ => k (.none, false), rt := fun r _ => k r } := by
  obtain ⟨lv, sg, o, x, sl, ol, rfl, hk⟩ := h
  refine ⟨rfl, ?_⟩
  show g_law_key [.fz (.tuple [.tuple (natD lv), .tuple (edsD sg)]), .fz (.tuple (natD o)), .fz (.int x), .no, .no, .no, .no, .no, .no] _
  walk_at "v"
  refine lc_all o (fun n : Nat => PyData.int n) (fun u => .int (cn sg x u : Nat)) rfl (by omega) (fun u hu T hT => ?_) (fun s' w => ?_)
  · show gN 4 _ _ _
    have s1 : SeqAt.shaped (.tuple [.int u, .int x]) = true := rfl
    have s2 := eds_shaped sg
    have s3 := eds_const sg
    walk_at "v"
    rw [eds_count]
    exact ⟨s1, s2, hT _ rfl⟩
  rw [EV.backV_same w, show (o.map fun u => PyData.int (cn sg x u : Nat)) = (natI (o.map (cn sg x))).map .int from by unfold natI; rw [List.map_map, List.map_map]; rfl]
  have sm : (natI (o.map (cn sg x))).sum = (S (cnt sg o x) o.length : Nat) := by
    have := sum_S (ks := o.map (cn sg x)) (a := cnt sg o x) (fun i y h => by
      rw [List.getElem?_map] at h
      obtain ⟨u, eu, rfl⟩ := Option.map_eq_some_iff.mp h
      unfold cnt cn
      rw [List.getD_eq_getElem?_getD, eu]; rfl) o.length (by rw [List.length_map]; exact Nat.le_refl _)
    rw [List.take_of_length_le (by rw [List.length_map]; exact Nat.le_refl _)] at this
    exact this
  have cl : ((natI (o.map (cn sg x))).map PyData.int).length = o.length := by unfold natI; rw [List.length_map, List.length_map, List.length_map]
  walk_at "v"
  rw [sm]
  generalize hn : S (cnt sg o x) o.length = n
  refine for_inv (fun i s => ∃ (md : Int) (x8 : Sl), s = [.fz (.tuple [.tuple (natD lv), .tuple (edsD sg)]), .fz (.tuple (natD o)), .fz (.int x), .ow (.list ((natI (o.map (cn sg x))).map .int)), .no, .fz (.int n), .fz (.int md), .fz (.int (S (cnt sg o x) i : Nat)), x8] ∧ ((md = -1 ∧ (n = 0 ∨ S (cnt sg o x) i ≤ (n - 1) / 2)) ∨ (∃ j : Nat, md = (j : Int) ∧ 0 < n ∧ S (cnt sg o x) j ≤ (n - 1) / 2 ∧ (n - 1) / 2 < S (cnt sg o x) (j + 1)))) ⟨_, _, rfl, ?_⟩ ?_ ?_
  · exact .inl ⟨rfl, .inr (Nat.zero_le _)⟩
  · rintro i d s F hi ed ⟨md, x8, rfl, q⟩ hF
    rw [rg_len, cl] at hi
    have ed := rg_get ed
    rw [show (0 : Int) + (i : Int) = (i : Nat) from Int.zero_add _] at ed
    subst ed
    have ac : atI ((natI (o.map (cn sg x))).map PyData.int) (i : Nat) = some (.int (cnt sg o x i : Nat)) := by
      rw [← natD_ints]
      refine at_natD ?_
      rw [List.getElem?_map, List.getElem?_eq_getElem (show i < o.length by omega)]
      unfold cnt cn
      rw [List.getD_eq_getElem?_getD, List.getElem?_eq_getElem (show i < o.length by omega)]
      rfl
    have sS : ((S (cnt sg o x) i : Nat) : Int) + (cnt sg o x i : Nat) = (S (cnt sg o x) (i + 1) : Nat) := rfl
    show vSeq _ _ [.fz (.tuple [.tuple (natD lv), .tuple (edsD sg)]), .fz (.tuple (natD o)), .fz (.int x), .ow (.list ((natI (o.map (cn sg x))).map .int)), .no, .fz (.int n), .fz (.int md), .fz (.int (S (cnt sg o x) i : Nat)), .fz (.int i)] _
    have done : ∀ md' : Int, ((md' = -1 ∧ (n = 0 ∨ S (cnt sg o x) (i + 1) ≤ (n - 1) / 2)) ∨ (∃ j : Nat, md' = (j : Int) ∧ 0 < n ∧ S (cnt sg o x) j ≤ (n - 1) / 2 ∧ (n - 1) / 2 < S (cnt sg o x) (j + 1))) → F [.fz (.tuple [.tuple (natD lv), .tuple (edsD sg)]), .fz (.tuple (natD o)), .fz (.int x), .ow (.list ((natI (o.map (cn sg x))).map .int)), .no, .fz (.int n), .fz (.int md'), .fz (.int ((S (cnt sg o x) i : Nat) + (cnt sg o x i : Nat))), .fz (.int i)] := fun md' c => by
      exact hF _ ⟨md', _, rfl, c⟩
    walk_at "v"
    · rename_i h1 h2 h3
      refine done i (.inr ⟨i, rfl, by omega, ?_, by omega⟩)
      rcases q with ⟨_, q⟩ | ⟨j, q, _⟩ <;> omega
    · rename_i h1 h2 h3
      refine done md ?_
      rcases q with ⟨e, q⟩ | q
      · exact .inl ⟨e, .inr (by omega)⟩
      · exact .inr q
    · rename_i h1 h2
      refine done md ?_
      rcases q with ⟨e, q⟩ | q
      · exact .inl ⟨e, .inl (by omega)⟩
      · exact .inr q
    · rename_i h1
      refine done md ?_
      rcases q with ⟨e, q⟩ | q
      · omega
      · exact .inr q
  · rintro s ⟨md, x8, rfl, q⟩
    rw [rg_len, cl] at q
    have em : md = med sg o x := by
      rcases q with ⟨e, q⟩ | ⟨j, e, j0, j1, j2⟩
      · rw [e, med_none]
        rw [Int.toNat_natCast, hn] at q
        rw [hn]
        omega
      · rw [e, med_some (j := j) (by omega) (by rw [hn]; exact j1) (by rw [hn]; exact j2)]
    have ev : (1 : Int) - Int.fmod (n : Nat) 2 = b2i (decide ((ups sg o x).length % 2 = 0)) := by
      unfold ups
      rw [mu_len, hn, Int.fmod_eq_emod_of_nonneg _ (by decide)]
      by_cases h : n % 2 = 0
      · rw [decide_eq_true h]; show _ = (1 : Int); omega
      · rw [decide_eq_false h]; show _ = (0 : Int); omega
    walk_at "v"
    rw [ev, em]
    exact hk
theorem ky_lex {s t : TriD} (h : lexT (triK s) (triK t) = true) : HT.lexLt [(triK s).1, (triK s).2.1, (triK s).2.2] [(triK t).1, (triK t).2.1, (triK t).2.2] = true := by
  rw [← h]
  unfold lexT
  rw [HT.lexLt_cons, HT.lexLt_cons, HT.lexLt_cons, HT.lexLt_nil_nil]
  by_cases h3 : (triK s).2.2 = (triK t).2.2
  · rw [if_pos h3, h3]; simp
  · rw [if_neg h3]
def sv_law_by_medians : VSp := fun ds k => ∃ lv sg o r got, sg.length ≤ 1000 ∧ lv.length ≤ 60 ∧ o.length ≤ 60 ∧ ByMed lv sg o r got ∧ ds = [netD lv sg, .tuple (natD o), .list (natD (placesAt lv r)), .tuple (natD got)] ∧ k (.bool true, false)
abbrev g_law_by_medians : FS := (vSeq (vIf (vOr (vNot (vTest (vDef sv_law_wholes (vCons (vOf (vVar 3)) (vCons (vOf (vCall fLen (vCons (vRef 2) vNil))) vNil))))) (vTest (vOp fNe (vOf (vCall fSortD (vCons (vRef 3) vNil))) (vRef 2)))) (vRet (vC (.bool false))) vPass) (vSeq (vAsg (vLc (vItT (vVar 3)) (gN 5) vYes (vDef sv_law_key (vCons (vOf (vVar 0)) (vCons (vOf (vVar 1)) (vCons (vOf (vVar 5)) vNil)))) [5]) 4) (vSeq (vFor (vRng1 (vCons (vOf (vOp fSub (vOf (vCall fLen (vCons (vRef 4) vNil))) (vOf (vC (.int 1))))) vNil)) (gN 6) (vIf (vNot (vTest (vOp fLtT (vOf (vOp fIx (vRef 4) (vRef 6))) (vOf (vOp fIx (vRef 4) (vOf (vOp fAdd (vRef 6) (vOf (vC (.int 1)))))))))) (vRet (vC (.bool false))) vPass)) (vRet (vC (.bool true))))))
theorem vf_law_by_medians (ds : List PyData) (k : KO) (h : sv_law_by_medians ds k) : ds.length = 4 ∧ g_law_by_medians (ds.map Sl.fz ++ List.replicate (7 - ds.length) Sl.no) { nx := fun _ => k (.none, false), rt := fun r _ => k r } := by
  obtain ⟨lv, sg, o, r, got, sl, ll, ol, ⟨pg, pw⟩, rfl, hk⟩ := h
  refine ⟨rfl, ?_⟩
  have pl := places_len lv r
  have gl : got.length ≤ 60 := by rw [pg.length_eq]; omega
  have pn := natD_len (placesAt lv r)
  show g_law_by_medians [.fz (netD lv sg), .fz (.tuple (natD o)), .fz (.list (natD (placesAt lv r))), .fz (.tuple (natD got)), .no, .no, .no] _
  walk_at "v"
  refine ⟨got, by rw [pn, pg.length_eq], ?_⟩
  walk_at "v"
  refine o_sortIs (ns := natI got) (by rw [← natD_ints]; rfl) ?_
  rw [sort_nat pg (places_sorted lv r)]
  walk_at "v"
  rw [natD_ints (placesAt lv r)]
  refine o_neIs ?_
  walk_at "v"
  · rename_i h
    exact absurd rfl h
  refine lc_all got (fun n : Nat => PyData.int n) (fun x => kyD (trp sg o x)) rfl (by omega) (fun x hx T hT => ?_) (fun s' w => ?_)
  · show gN 5 _ _ _
    walk_at "v"
    refine ⟨lv, sg, o, x, sl, ol, rfl, ?_⟩
    exact hT _ rfl
  rw [EV.backV_same w]
  have kl : (got.map fun x => kyD (trp sg o x)).length = got.length := List.length_map _
  walk_at "v"
  refine for_inv (fun i s => ∃ x6, s = [.fz (netD lv sg), .fz (.tuple (natD o)), .fz (.list ((natI (placesAt lv r)).map .int)), .fz (.tuple (natD got)), .ow (.list (got.map fun x => kyD (trp sg o x))), .no, x6]) ⟨_, rfl⟩ ?_ ?_
  · rintro i d s F hi ed ⟨x6, rfl⟩ hF
    rw [rg_len, kl] at hi
    have ed := rg_get ed
    rw [show (0 : Int) + (i : Int) = (i : Nat) from Int.zero_add _] at ed
    subst ed
    have h0 : i < got.length := by omega
    have h1 : i + 1 < got.length := by omega
    have a0 : atI (got.map fun x => kyD (trp sg o x)) (i : Nat) = some (kyD (trp sg o got[i])) := atI_nat (by rw [List.getElem?_map, List.getElem?_eq_getElem h0]; rfl)
    have a1 : atI (got.map fun x => kyD (trp sg o x)) ((i : Nat) + 1) = some (kyD (trp sg o got[i + 1])) := by
      rw [show ((i : Nat) : Int) + 1 = ((i + 1 : Nat) : Int) from rfl]
      exact atI_nat (by rw [List.getElem?_map, List.getElem?_eq_getElem h1]; rfl)
    have lx := ky_lex (List.pairwise_iff_getElem.mp pw i (i + 1) h0 h1 (by omega))
    show vIf _ _ _ [.fz (netD lv sg), .fz (.tuple (natD o)), .fz (.list ((natI (placesAt lv r)).map .int)), .fz (.tuple (natD got)), .ow (.list (got.map fun x => kyD (trp sg o x))), .no, .fz (.int i)] _
    walk_at "v"
    refine o_ltT (ns := [_, _, _]) (ms := [_, _, _]) ?_
    rw [lx]
    walk_at "v"
    exact hF _ ⟨_, rfl⟩
  · rintro s ⟨x6, rfl⟩
    walk_at "v"
    exact hk
def sv_law_kept : VSp := fun ds k => ∃ (os ot : List (List Nat)) (r : Nat) (o : List Nat), os[r]? = some o ∧ r < ot.length ∧ ot.length ≤ 60 ∧ ds = [ordD os, ordD ot, .int (r + 1 : Nat)] ∧ k (ordD (ot.set r o), false)
abbrev g_law_kept : FS := (vSeq (vAsg (vCall fList (vCons (vRef 1) vNil)) 3) (vSeq (vSetL (vOp fIx (vRef 0) (vOf (vOp fSub (vRef 2) (vOf (vC (.int 1)))))) 3 (vOp fSub (vRef 2) (vOf (vC (.int 1))))) (vRet (vCall fTuple (vCons (vRef 3) vNil)))))
theorem vf_law_kept (ds : List PyData) (k : KO) (h : sv_law_kept ds k) : ds.length = 3 ∧ g_law_kept (ds.map Sl.fz ++ List.replicate (4 - ds.length) Sl.no) { nx := fun _ => k (.none, false), rt := fun r _ => k r } := by
  obtain ⟨os, ot, r, o, eo, hr, l60, rfl, hk⟩ := h
  refine ⟨rfl, ?_⟩
  have ao := at_ord eo
  have ae : ((r + 1 : Nat) : Int) - 1 = (r : Nat) := by omega
  rw [← ae] at ao
  have tl : (tupsD ot).length = ot.length := List.length_map _
  have ix : ixN (tupsD ot).length (((r + 1 : Nat) : Int) - 1) = some r := by rw [ae, tl]; exact ixN_of hr
  show g_law_kept [.fz (.tuple (tupsD os)), .fz (.tuple (tupsD ot)), .fz (.int (r + 1 : Nat)), .no] _
  walk_at "v"
  rw [show (tupsD ot).set r (.tuple (natD o)) = tupsD (ot.set r o) from List.map_set.symm]
  exact hk
def sv_law_started : VSp := fun ds k => ∃ lv sg d os, NetOk lv sg d ∧ os.length = d ∧ Started lv sg os ∧ ds = [netD lv sg, .list (rowsD lv d), ordD os] ∧ k (.bool true, false)
abbrev g_law_started : FS := (vSeq (vIf (vOr (vNot (vTest (vIsi "tuple" (vRef 2)))) (vTest (vOp fNe (vOf (vCall fLen (vCons (vRef 2) vNil))) (vOf (vCall fLen (vCons (vRef 1) vNil)))))) (vRet (vC (.bool false))) vPass) (vSeq (vFor (vRng1 (vCons (vOf (vCall fLen (vCons (vRef 1) vNil))) vNil)) (gN 3) (vIf (vTest (vOp fEq (vRef 3) (vOf (vC (.int 0))))) (vIf (vOr (vNot (vTest (vDef sv_law_wholes (vCons (vOf (vOp fIx (vRef 2) (vOf (vC (.int 0))))) (vCons (vOf (vCall fLen (vCons (vOf (vOp fIx (vRef 1) (vOf (vC (.int 0))))) vNil))) vNil))))) (vTest (vOp fNe (vOf (vCall fList (vCons (vOf (vOp fIx (vRef 2) (vOf (vC (.int 0))))) vNil))) (vOf (vOp fIx (vRef 1) (vOf (vC (.int 0)))))))) (vRet (vC (.bool false))) vPass) (vIf (vNot (vTest (vDef sv_law_by_medians (vCons (vOf (vVar 0)) (vCons (vOf (vOp fIx (vRef 2) (vOf (vOp fSub (vRef 3) (vOf (vC (.int 1))))))) (vCons (vOf (vOp fIx (vRef 1) (vRef 3))) (vCons (vOf (vOp fIx (vRef 2) (vRef 3))) vNil))))))) (vRet (vC (.bool false))) vPass))) (vRet (vC (.bool true)))))
theorem vf_law_started (ds : List PyData) (k : KO) (h : sv_law_started ds k) : ds.length = 3 ∧ g_law_started (ds.map Sl.fz ++ List.replicate (4 - ds.length) Sl.no) { nx := fun _ => k (.none, false), rt := fun r _ => k r } := by
  obtain ⟨lv, sg, d, os, ok, ol, st, rfl, hk⟩ := h
  refine ⟨rfl, ?_⟩
  have l60 := ok.lo.len
  have sl := ok.sl
  have d40 := ok.lo.dl
  have rl := rowsD_len lv d
  have tl : (tupsD os).length = d := by rw [List.length_map]; exact ol
  show g_law_started [.fz (netD lv sg), .fz (.list (rowsD lv d)), .fz (.tuple (tupsD os)), .no] _
  walk_at "v"
  · rename_i h
    omega
  refine for_inv (fun i s => ∃ x3, s = [.fz (netD lv sg), .fz (.list (rowsD lv d)), .fz (.tuple (tupsD os)), x3]) ⟨_, rfl⟩ ?_ ?_
  · rintro i dd s F hi ed ⟨x3, rfl⟩ hF
    rw [rg_len, rl] at hi
    have hr : i < d := by omega
    have ed := rg_get ed
    rw [show (0 : Int) + (i : Int) = (i : Nat) from Int.zero_add _] at ed
    subst ed
    show vIf _ _ _ [.fz (netD lv sg), .fz (.list (rowsD lv d)), .fz (.tuple (tupsD os)), .fz (.int i)] _
    have ar := at_rows (lv := lv) hr
    have pl := places_len lv i
    cases i with
    | zero =>
      have eo : os[0]? = some os[0] := List.getElem?_eq_getElem (by omega)
      have ao := at_ord eo
      rw [st.zero _ eo] at ao
      have ao : atI (tupsD os) 0 = some (.tuple (natD (placesAt lv 0))) := ao
      have ar : atI (rowsD lv d) 0 = some (.list (natD (placesAt lv 0))) := ar
      have pn := natD_len (placesAt lv 0)
      walk_at "v"
      · refine ⟨placesAt lv 0, by rw [pn], ?_⟩
        walk_at "v"
        rw [natD_ints (placesAt lv 0)]
        refine o_neIs ?_
        walk_at "v"
        · rename_i h
          exact absurd rfl h
        exact hF _ ⟨_, rfl⟩
    | succ i =>
      have eo : os[i]? = some os[i] := List.getElem?_eq_getElem (by omega)
      have eg : os[i + 1]? = some os[i + 1] := List.getElem?_eq_getElem (by omega)
      have ao := at_ord eo
      have ag := at_ord eg
      rw [show ((i : Nat) : Int) = ((i + 1 : Nat) : Int) - 1 from by omega] at ao
      have bm := st.med i _ _ eo eg
      have ol : os[i].length ≤ 60 := by rw [(st.perm i _ eo).length_eq]; have := places_len lv i; omega
      walk_at "v"
      refine ⟨lv, sg, os[i], i + 1, os[i + 1], sl, l60, ol, bm, rfl, ?_⟩
      walk_at "v"
      exact hF _ ⟨_, rfl⟩
  · rintro s ⟨x3, rfl⟩
    walk_at "v"
    exact hk
abbrev spLaw := EV.spLawV
abbrev g_law : FS := (vSeq (vAsg (vBag sv_law_any_net 1 vNil) 2) (vSeq (vAsg (vDef sv_law_rows_of (vCons (vOf (vVar 2)) vNil)) 3) (vSeq (vAsg (vBag sv_law_orders 1 (vCons (vOf (vVar 2)) vNil)) 4) (vSeq (vAsg (vBag sv_law_orders 1 (vCons (vOf (vVar 2)) vNil)) 5) (vSeq (vFor (vRng2 (vCons (vOf (vC (.int 1))) (vCons (vOf (vCall fLen (vCons (vRef 3) vNil))) vNil))) (gN 6) (vSeq (vIf (vNot (vTest (vDef sv_law_by_medians (vCons (vOf (vVar 2)) (vCons (vOf (vOp fIx (vRef 4) (vOf (vOp fSub (vRef 6) (vOf (vC (.int 1))))))) (vCons (vOf (vOp fIx (vRef 3) (vRef 6))) (vCons (vOf (vDef sv_median_order (vCons (vOf (vVar 2)) (vCons (vOf (vVar 4)) (vCons (vOf (vVar 6)) vNil))))) vNil))))))) (vRet (vC (.bool false))) vPass) (vSeq (vIf (vNot (vTest (vDef sv_law_by_medians (vCons (vOf (vVar 2)) (vCons (vOf (vOp fIx (vRef 5) (vOf (vOp fSub (vRef 6) (vOf (vC (.int 1))))))) (vCons (vOf (vOp fIx (vRef 3) (vRef 6))) (vCons (vOf (vDef sv_median_order (vCons (vOf (vVar 2)) (vCons (vOf (vVar 5)) (vCons (vOf (vVar 6)) vNil))))) vNil))))))) (vRet (vC (.bool false))) vPass) (vIf (vNot (vTest (vDef sv_law_by_medians (vCons (vOf (vVar 2)) (vCons (vOf (vOp fIx (vRef 4) (vOf (vOp fSub (vRef 6) (vOf (vC (.int 1))))))) (vCons (vOf (vOp fIx (vRef 3) (vRef 6))) (vCons (vOf (vDef sv_median_order (vCons (vOf (vVar 2)) (vCons (vOf (vDef sv_law_kept (vCons (vOf (vVar 4)) (vCons (vOf (vVar 5)) (vCons (vOf (vVar 6)) vNil))))) (vCons (vOf (vVar 6)) vNil))))) vNil))))))) (vRet (vC (.bool false))) vPass)))) (vRet (vDef sv_law_started (vCons (vOf (vVar 2)) (vCons (vOf (vVar 3)) (vCons (vOf (vDef sv_start_orders (vCons (vOf (vVar 2)) vNil))) vNil))))))))))
theorem vf_law : g_law (.no :: .bg :: List.replicate (7 - 2) .no) { nx := fun _ => False, rt := fun r _ => r = (.bool true, false) } := by
  show g_law [.no, .bg, .no, .no, .no, .no, .no] _
  walk_at "v"
  refine ⟨rfl, fun lv sg d ok => ?_⟩
  have d40 := ok.lo.dl
  have l60 := ok.lo.len
  have sl := ok.sl
  walk_at "v"
  refine ⟨lv, sg, d, ok.lo, rfl, ?_⟩
  walk_at "v"
  refine ⟨lv, sg, d, ok.lo, rfl, fun os oo => ?_⟩
  walk_at "v"
  refine ⟨lv, sg, d, ok.lo, rfl, fun ot ou => ?_⟩
  have rl := rowsD_len lv d
  walk_at "v"
  refine for_inv (fun i s => ∃ x6, s = [.no, .bg, .fz (netD lv sg), .ow (.list (rowsD lv d)), .fz (ordD os), .fz (ordD ot), x6]) ⟨_, rfl⟩ ?_ ?_
  · rintro i dd s F hi ed ⟨x6, rfl⟩ hF
    rw [rg_len, rl] at hi
    have hr : i + 1 < d := by omega
    have ed := rg_get ed
    rw [show (1 : Int) + (i : Int) = ((i + 1 : Nat) : Int) from by omega] at ed
    subst ed
    have ar := at_rows (lv := lv) hr
    have pl := places_len lv i
    obtain ⟨o, eo, po⟩ := oo.get (show i < d by omega)
    have ol : o.length ≤ 60 := by rw [po.length_eq]; omega
    have ao := at_ord eo
    obtain ⟨u, eu, pu⟩ := ou.get (show i < d by omega)
    have ul : u.length ≤ 60 := by rw [pu.length_eq]; omega
    have au := at_ord eu
    rw [show ((i : Nat) : Int) = ((i + 1 : Nat) : Int) - 1 from by omega] at ao au
    have tl : ot.length = d := by have := ou.length; rw [List.length_range] at this; exact this.symm
    show vSeq _ _ [.no, .bg, .fz (netD lv sg), .ow (.list (rowsD lv d)), .fz (.tuple (tupsD os)), .fz (.tuple (tupsD ot)), .fz (.int (i + 1 : Nat))] _
    walk_at "v"
    refine ⟨lv, sg, d, os, i, o, _, ok, hr, eo, po, .inr rfl, rfl, fun got bm => ?_⟩
    walk_at "v"
    refine ⟨lv, sg, o, i + 1, got, sl, l60, ol, bm, rfl, ?_⟩
    walk_at "v"
    refine ⟨lv, sg, d, ot, i, u, _, ok, hr, eu, pu, .inr rfl, rfl, fun got bm => ?_⟩
    walk_at "v"
    refine ⟨lv, sg, u, i + 1, got, sl, l60, ul, bm, rfl, ?_⟩
    walk_at "v"
    refine ⟨os, ot, i, o, eo, by omega, by omega, rfl, ?_⟩
    walk_at "v"
    refine ⟨lv, sg, d, ot.set i o, i, o, _, ok, hr, by rw [List.getElem?_set_self (by omega)], po, .inr rfl, rfl, fun got bm => ?_⟩
    walk_at "v"
    refine ⟨lv, sg, o, i + 1, got, sl, l60, ol, bm, rfl, ?_⟩
    walk_at "v"
    exact hF _ ⟨_, rfl⟩
  · rintro s ⟨x6, rfl⟩
    walk_at "v"
    refine ⟨lv, sg, d, ok, rfl, fun st sl2 ss => ?_⟩
    walk_at "v"
    refine ⟨lv, sg, d, st, ok, sl2, ss, rfl, ?_⟩
    walk_at "v"
    rfl
section
variable {P : Program} {w : World} {K : PySem.W.Frag} {mg : Str → Option Value} {base : Heap}
theorem okv_law_key (T : Txt K mg) : FnOk P w K mg base CX0 1 T.f_law_key T.fd_law_key ["net", "before", "place"] (spV K sv_law_key) := by
  refine T.F_law_key.ok sc_law_key (fun vs H Q E h => by obtain ⟨N, ds, k, _, ra, hs, _⟩ := h; rw [ra.len, (vf_law_key ds k hs).1]; rfl) (fun cdv A outer s H vs Q E hr h => ?_)
  exact ⟨_, (pss_cons (ps_setLc (i := 3) (own := [("upper", 4)]) (g := gName 4) (tt := tYes) rfl sc_law_key.nd rfl rfl (sw_true rfl rfl rfl (by decide +kernel)) (dpi_tup K (pv 1)) (blkOk_by (own := [("upper", 4)]) (N := ["net", "before", "place", "counts", "upper", "many", "median", "passed", "k"]) (sc := defScope s_law_key) (by decide +kernel)) (fun _ _ _ _ _ => (pg_name (i := 4) sc_law_key.nd rfl (by first | exact Or.inl rfl | exact Or.inr rfl))) (fun _ _ _ _ _ => pts_nil) (fun _ _ _ _ _ => (pe_tm PySem.F.plainAttrs_tuple PySem.F.slot_tuple_count PySem.F.type_tuple_count (dTCount K (hu65 hr)) (pe_ix (dIx K) (pv 0) pe_int (fun _ _ => rfl)) (pa_cons (pe_tupZ (pa_cons (pv 4) (pa_cons (pv 2) pa_nil))) pa_nil))))
   (pss_cons (ps_set (i := 5) sc_law_key.nd rfl (by first | exact Or.inl rfl | exact Or.inr rfl) (pe_callB (dSum K rfl) (by rfl) T.n_sum (by decide +kernel) (pa_cons (pv 3) pa_nil)))
   (pss_cons (ps_set (i := 6) sc_law_key.nd rfl (by first | exact Or.inl rfl | exact Or.inr rfl) (pe_un un_neg pe_int))
   (pss_cons (ps_set (i := 7) sc_law_key.nd rfl (by first | exact Or.inl rfl | exact Or.inr rfl) pe_int)
   (pss_cons (ps_for PassesOwn.never rfl (pi_range1 rfl T.n_range (pa_cons (pe_callB (dLen K) (by rfl) T.n_len (by decide +kernel) (pa_cons (pv 3) pa_nil)) pa_nil)) (pg_name (i := 8) sc_law_key.nd rfl (by first | exact Or.inl rfl | exact Or.inr rfl))
    (pss_cons (ps_set (i := 7) sc_law_key.nd rfl (by first | exact Or.inl rfl | exact Or.inr rfl) (pe_op (dAddVZ K) (pv 7) (pe_ix (dIx K) (pv 3) (pv 8) (fun _ _ => rfl))))
    (pss_one (ps_if (PW.pt (pw_and (pt_cmpR dLt (pv 6) pe_int (nomark _)) (pw_and (pt_cmpR dGt (pv 5) pe_int (nomark _)) (pw_and1 (pt_cmpR dGt (pv 7) (pe_op dDiv (pe_op dSub (pv 5) pe_int) pe_int) (nomark _))))))
     (pss_one (ps_set (i := 6) sc_law_key.nd rfl (by first | exact Or.inl rfl | exact Or.inr rfl) (pv 8)))
     pss_nil))))
   (pss_one (ps_ret (pe_tupZ (pa_cons (pv 6) (pa_cons (pe_op dSub pe_int (pe_op dMod (pe_callTy dInt (by rfl) T.n_int (by decide +kernel) (pa_cons (pv 5) pa_nil)) pe_int)) (pa_cons (pv 2) pa_nil))))))))))), run_V (ls_seq (ls_asg (le_lc (li_tup le_var) lg_name (gin_name (by decide)) lt_yes (le_tm ol_tcount (lb_of (le_op ol_ix lb_ref (lb_of (le_c fun _ _ => .int _)))) (la_cons (lb_of (le_tup (la_cons (lb_of le_var) (la_cons (lb_of le_var) la_nil)))) la_nil)))) (ls_seq (ls_asg (le_cb ol_sum (la_cons lb_ref la_nil))) (ls_seq (ls_asg (le_un ol_neg (lb_of (le_c fun _ _ => .int _)))) (ls_seq (ls_asg (le_c fun _ _ => .int _)) (ls_seq (ls_for (li_rng1 (la_cons (lb_of (le_cb ol_len (la_cons lb_ref la_nil))) la_nil)) lg_name (ls_seq (ls_asg (le_op ol_add lb_ref (lb_of (le_op ol_ix lb_ref lb_ref)))) (ls_if (lt_and (lt_test (le_op ol_lt lb_ref (lb_of (le_c fun _ _ => .int _)))) (lt_and (lt_test (le_op ol_gt lb_ref (lb_of (le_c fun _ _ => .int _)))) (lt_test (le_op ol_gt lb_ref (lb_of (le_op ol_div (lb_of (le_op ol_sub lb_ref (lb_of (le_c fun _ _ => .int _)))) (lb_of (le_c fun _ _ => .int _)))))))) (ls_asg le_var) ls_pass))) (ls_ret (le_tup (la_cons (lb_of le_var) (la_cons (lb_of (le_op ol_sub (lb_of (le_c fun _ _ => .int _)) (lb_of (le_op ol_mod (lb_of (le_cb ol_int (la_cons lb_ref la_nil))) (lb_of (le_c fun _ _ => .int _)))))) (la_cons (lb_of le_var) la_nil)))))))))) (fun ds k hs => ⟨by rw [(vf_law_key ds k hs).1]; decide, (vf_law_key ds k hs).2⟩) h⟩
theorem okv_law_by_medians (T : Txt K mg) : FnOk P w K mg base CX0 3 T.f_law_by_medians T.fd_law_by_medians ["net", "before", "row", "got"] (spV K sv_law_by_medians) := by
  refine T.F_law_by_medians.ok sc_law_by_medians (fun vs H Q E h => by obtain ⟨N, ds, k, _, ra, hs, _⟩ := h; rw [ra.len, (vf_law_by_medians ds k hs).1]; rfl) (fun cdv A outer s H vs Q E hr h => ?_)
  exact ⟨_, (pss_cons (ps_if (PW.pt (pw_or (pt_not (pt_val (pe_call (okv_law_wholes T) (hr.mono (by omega)) (by rfl) T.g_law_wholes T.F_law_wholes.kp T.b_law_wholes .nil pass0 (pa_cons (pv 3) (pa_cons (pe_callB (dLen K) (by rfl) T.n_len (by decide +kernel) (pa_cons (pv 2) pa_nil)) pa_nil))))) (pw_or1 (pt_cmpR (dNeV K hr.units) (pe_callB (dSortD K hr.units) (by rfl) T.n_sorted (by decide +kernel) (pa_cons (pv 3) pa_nil)) (pv 2) (nomark _)))))
    (pss_one (ps_ret pe_bl))
    pss_nil)
   (pss_cons (ps_setLc (i := 4) (own := [("place", 5)]) (g := gName 5) (tt := tYes) rfl sc_law_by_medians.nd rfl rfl (sw_true rfl rfl rfl (by decide +kernel)) (dpi_tup K (pv 3)) (blkOk_by (own := [("place", 5)]) (N := ["net", "before", "row", "got", "keys", "place", "k"]) (sc := defScope s_law_by_medians) (by decide +kernel)) (fun _ _ _ _ _ => (pg_name (i := 5) sc_law_by_medians.nd rfl (by first | exact Or.inl rfl | exact Or.inr rfl))) (fun _ _ _ _ _ => pts_nil) (fun _ _ _ _ _ => (pe_call (okv_law_key T) (hr.mono (by omega)) (by rfl) T.g_law_key T.F_law_key.kp T.b_law_key .nil pass0 (pa_cons (pv 0) (pa_cons (pv 1) (pa_cons (pv 5) pa_nil))))))
   (pss_cons (ps_for PassesOwn.never rfl (pi_range1 rfl T.n_range (pa_cons (pe_op dSub (pe_callB (dLen K) (by rfl) T.n_len (by decide +kernel) (pa_cons (pv 4) pa_nil)) pe_int) pa_nil)) (pg_name (i := 6) sc_law_by_medians.nd rfl (by first | exact Or.inl rfl | exact Or.inr rfl))
    (pss_one (ps_if (pt_not (pt_cmpR (dLtT K (hu65 hr)) (pe_ix (dIx K) (pv 4) (pv 6) (fun _ _ => rfl)) (pe_ix (dIx K) (pv 4) (pe_op (dAddVZ K) (pv 6) pe_int) (fun _ _ => rfl)) (nomark _)))
     (pss_one (ps_ret pe_bl))
     pss_nil)))
   (pss_one (ps_ret pe_bl))))), run_V (ls_seq (ls_if (lt_or (lt_not (lt_B (le_def (la_cons (lb_of le_var) (la_cons (lb_of (le_cb ol_len (la_cons lb_ref la_nil))) la_nil))))) (lt_test (le_op ol_ne (lb_of (le_cb ol_sortD (la_cons lb_ref la_nil))) lb_ref))) (ls_ret (le_c fun _ _ => .bl _)) ls_pass) (ls_seq (ls_asg (le_lc (li_tup le_var) lg_name (gin_name (by decide)) lt_yes (le_def (la_cons (lb_of le_var) (la_cons (lb_of le_var) (la_cons (lb_of le_var) la_nil)))))) (ls_seq (ls_for (li_rng1 (la_cons (lb_of (le_op ol_sub (lb_of (le_cb ol_len (la_cons lb_ref la_nil))) (lb_of (le_c fun _ _ => .int _)))) la_nil)) lg_name (ls_if (lt_not (lt_test (le_op ol_ltT (lb_of (le_op ol_ix lb_ref lb_ref)) (lb_of (le_op ol_ix lb_ref (lb_of (le_op ol_add lb_ref (lb_of (le_c fun _ _ => .int _))))))))) (ls_ret (le_c fun _ _ => .bl _)) ls_pass)) (ls_ret (le_c fun _ _ => .bl _))))) (fun ds k hs => ⟨by rw [(vf_law_by_medians ds k hs).1]; decide, (vf_law_by_medians ds k hs).2⟩) h⟩
theorem okv_law_kept (T : Txt K mg) : FnOk P w K mg base CX0 1 T.f_law_kept T.fd_law_kept ["orders", "other", "r"] (spV K sv_law_kept) := by
  refine T.F_law_kept.ok sc_law_kept (fun vs H Q E h => by obtain ⟨N, ds, k, _, ra, hs, _⟩ := h; rw [ra.len, (vf_law_kept ds k hs).1]; rfl) (fun cdv A outer s H vs Q E hr h => ?_)
  exact ⟨_, (pss_cons (ps_set (i := 3) sc_law_kept.nd rfl (by first | exact Or.inl rfl | exact Or.inr rfl) (pe_callTy (dList K) (by rfl) T.n_list (by decide +kernel) (pa_cons (pv 1) pa_nil)))
   (pss_cons (ps_asg (pe_ix (dIx K) (pv 0) (pe_op dSub (pv 2) pe_int) (fun _ _ => rfl)) (pg_sub (pv 3) (pe_op dSub (pv 2) pe_int) set_list))
   (pss_one (ps_ret (pe_callTy (dTupleZ K) (by rfl) T.n_tuple (by decide +kernel) (pa_cons (pv 3) pa_nil)))))), run_V (ls_seq (ls_asg (le_cb ol_list (la_cons lb_ref la_nil))) (ls_seq (ls_setL (le_op ol_ix lb_ref (lb_of (le_op ol_sub lb_ref (lb_of (le_c fun _ _ => .int _))))) (le_op ol_sub lb_ref (lb_of (le_c fun _ _ => .int _)))) (ls_ret (le_cb ol_tuple (la_cons lb_ref la_nil))))) (fun ds k hs => ⟨by rw [(vf_law_kept ds k hs).1]; decide, (vf_law_kept ds k hs).2⟩) h⟩
theorem okv_law_started (T : Txt K mg) : FnOk P w K mg base CX0 4 T.f_law_started T.fd_law_started ["net", "rows", "start"] (spV K sv_law_started) := by
  refine T.F_law_started.ok sc_law_started (fun vs H Q E h => by obtain ⟨N, ds, k, _, ra, hs, _⟩ := h; rw [ra.len, (vf_law_started ds k hs).1]; rfl) (fun cdv A outer s H vs Q E hr h => ?_)
  exact ⟨_, (pss_cons (ps_if (PW.pt (pw_or (pt_not (pt_val (pe_callB (dIsi K) (by rfl) T.n_isinstance (by decide +kernel) (pa_cons (pv 2) (pa_cons (pe_bltn (v := .ty "tuple") (u := .type "tuple") (by rfl) T.n_tuple (by decide +kernel) rfl) pa_nil))))) (pw_or1 (pt_cmpR (dNeV K hr.units) (pe_callB (dLen K) (by rfl) T.n_len (by decide +kernel) (pa_cons (pv 2) pa_nil)) (pe_callB (dLen K) (by rfl) T.n_len (by decide +kernel) (pa_cons (pv 1) pa_nil)) (nomark _)))))
    (pss_one (ps_ret pe_bl))
    pss_nil)
   (pss_cons (ps_for PassesOwn.never rfl (pi_range1 rfl T.n_range (pa_cons (pe_callB (dLen K) (by rfl) T.n_len (by decide +kernel) (pa_cons (pv 1) pa_nil)) pa_nil)) (pg_name (i := 3) sc_law_started.nd rfl (by first | exact Or.inl rfl | exact Or.inr rfl))
    (pss_one (ps_if (pt_cmpR (dEqV K hr.units) (pv 3) pe_int (nomark _))
     (pss_one (ps_if (PW.pt (pw_or (pt_not (pt_val (pe_call (okv_law_wholes T) (hr.mono (by omega)) (by rfl) T.g_law_wholes T.F_law_wholes.kp T.b_law_wholes .nil pass0 (pa_cons (pe_ix (dIx K) (pv 2) pe_int (fun _ _ => rfl)) (pa_cons (pe_callB (dLen K) (by rfl) T.n_len (by decide +kernel) (pa_cons (pe_ix (dIx K) (pv 1) pe_int (fun _ _ => rfl)) pa_nil)) pa_nil))))) (pw_or1 (pt_cmpR (dNeV K hr.units) (pe_callTy (dList K) (by rfl) T.n_list (by decide +kernel) (pa_cons (pe_ix (dIx K) (pv 2) pe_int (fun _ _ => rfl)) pa_nil)) (pe_ix (dIx K) (pv 1) pe_int (fun _ _ => rfl)) (nomark _)))))
      (pss_one (ps_ret pe_bl))
      pss_nil))
     (pss_one (ps_if (pt_not (pt_val (pe_call (okv_law_by_medians T) (hr.mono (by omega)) (by rfl) T.g_law_by_medians T.F_law_by_medians.kp T.b_law_by_medians .nil pass0 (pa_cons (pv 0) (pa_cons (pe_ix (dIx K) (pv 2) (pe_op dSub (pv 3) pe_int) (fun _ _ => rfl)) (pa_cons (pe_ix (dIx K) (pv 1) (pv 3) (fun _ _ => rfl)) (pa_cons (pe_ix (dIx K) (pv 2) (pv 3) (fun _ _ => rfl)) pa_nil)))))))
      (pss_one (ps_ret pe_bl))
      pss_nil)))))
   (pss_one (ps_ret pe_bl)))), run_V (ls_seq (ls_if (lt_or (lt_not (lt_B (le_isi lb_ref))) (lt_test (le_op ol_ne (lb_of (le_cb ol_len (la_cons lb_ref la_nil))) (lb_of (le_cb ol_len (la_cons lb_ref la_nil)))))) (ls_ret (le_c fun _ _ => .bl _)) ls_pass) (ls_seq (ls_for (li_rng1 (la_cons (lb_of (le_cb ol_len (la_cons lb_ref la_nil))) la_nil)) lg_name (ls_if (lt_test (le_op ol_eq lb_ref (lb_of (le_c fun _ _ => .int _)))) (ls_if (lt_or (lt_not (lt_B (le_def (la_cons (lb_of (le_op ol_ix lb_ref (lb_of (le_c fun _ _ => .int _)))) (la_cons (lb_of (le_cb ol_len (la_cons (lb_of (le_op ol_ix lb_ref (lb_of (le_c fun _ _ => .int _)))) la_nil))) la_nil))))) (lt_test (le_op ol_ne (lb_of (le_cb ol_list (la_cons (lb_of (le_op ol_ix lb_ref (lb_of (le_c fun _ _ => .int _)))) la_nil))) (lb_of (le_op ol_ix lb_ref (lb_of (le_c fun _ _ => .int _))))))) (ls_ret (le_c fun _ _ => .bl _)) ls_pass) (ls_if (lt_not (lt_B (le_def (la_cons (lb_of le_var) (la_cons (lb_of (le_op ol_ix lb_ref (lb_of (le_op ol_sub lb_ref (lb_of (le_c fun _ _ => .int _)))))) (la_cons (lb_of (le_op ol_ix lb_ref lb_ref)) (la_cons (lb_of (le_op ol_ix lb_ref lb_ref)) la_nil))))))) (ls_ret (le_c fun _ _ => .bl _)) ls_pass))) (ls_ret (le_c fun _ _ => .bl _)))) (fun ds k hs => ⟨by rw [(vf_law_started ds k hs).1]; decide, (vf_law_started ds k hs).2⟩) h⟩
theorem ok_law (T : Txt K mg) {f : Addr} {fd : FuncData} (F : Fun K "law" "law" s_law f fd) : FnOk P w K mg base CX0 5 f fd ["script"] (spLaw K) := by
  refine F.ok sc_law (fun vs H Q E h => by obtain ⟨a, ns, rfl, _⟩ := h; rfl) (fun cdv A outer s H vs Q E hr h => ?_)
  exact ⟨_, (pss_cons (ps_set (i := 1) sc_law.nd rfl (by first | exact Or.inl rfl | exact Or.inr rfl) (pe_call (ok_law_bag T) (hr.mono (by omega)) (by rfl) T.g_law_bag T.F_law_bag.kp T.b_law_bag .nil pass0 (pa_cons (pv 0) pa_nil)))
   (pss_cons (ps_set (i := 2) sc_law.nd rfl (by first | exact Or.inl rfl | exact Or.inr rfl) (pe_call (okv_law_any_net T) (hr.mono (by omega)) (by rfl) T.g_law_any_net T.F_law_any_net.kp T.b_law_any_net .nil pass0 (pa_cons (pv 1) pa_nil)))
   (pss_cons (ps_set (i := 3) sc_law.nd rfl (by first | exact Or.inl rfl | exact Or.inr rfl) (pe_call (okv_law_rows_of T) (hr.mono (by omega)) (by rfl) T.g_law_rows_of T.F_law_rows_of.kp T.b_law_rows_of .nil pass0 (pa_cons (pv 2) pa_nil)))
   (pss_cons (ps_set (i := 4) sc_law.nd rfl (by first | exact Or.inl rfl | exact Or.inr rfl) (pe_call (okv_law_orders T) (hr.mono (by omega)) (by rfl) T.g_law_orders T.F_law_orders.kp T.b_law_orders .nil pass0 (pa_cons (pv 1) (pa_cons (pv 2) pa_nil))))
   (pss_cons (ps_set (i := 5) sc_law.nd rfl (by first | exact Or.inl rfl | exact Or.inr rfl) (pe_call (okv_law_orders T) (hr.mono (by omega)) (by rfl) T.g_law_orders T.F_law_orders.kp T.b_law_orders .nil pass0 (pa_cons (pv 1) (pa_cons (pv 2) pa_nil))))
   (pss_cons (ps_for PassesOwn.never rfl (pi_range2 rfl T.n_range (pa_cons pe_int (pa_cons (pe_callB (dLen K) (by rfl) T.n_len (by decide +kernel) (pa_cons (pv 3) pa_nil)) pa_nil))) (pg_name (i := 6) sc_law.nd rfl (by first | exact Or.inl rfl | exact Or.inr rfl))
    (pss_cons (ps_if (pt_not (pt_val (pe_call (okv_law_by_medians T) (hr.mono (by omega)) (by rfl) T.g_law_by_medians T.F_law_by_medians.kp T.b_law_by_medians .nil pass0 (pa_cons (pv 2) (pa_cons (pe_ix (dIx K) (pv 4) (pe_op dSub (pv 6) pe_int) (fun _ _ => rfl)) (pa_cons (pe_ix (dIx K) (pv 3) (pv 6) (fun _ _ => rfl)) (pa_cons (pe_call (okv_median_order T) (hr.mono (by omega)) (by rfl) T.g_median_order T.F_median_order.kp T.b_median_order .nil pass0 (pa_cons (pv 2) (pa_cons (pv 4) (pa_cons (pv 6) pa_nil)))) pa_nil)))))))
     (pss_one (ps_ret pe_bl))
     pss_nil)
    (pss_cons (ps_if (pt_not (pt_val (pe_call (okv_law_by_medians T) (hr.mono (by omega)) (by rfl) T.g_law_by_medians T.F_law_by_medians.kp T.b_law_by_medians .nil pass0 (pa_cons (pv 2) (pa_cons (pe_ix (dIx K) (pv 5) (pe_op dSub (pv 6) pe_int) (fun _ _ => rfl)) (pa_cons (pe_ix (dIx K) (pv 3) (pv 6) (fun _ _ => rfl)) (pa_cons (pe_call (okv_median_order T) (hr.mono (by omega)) (by rfl) T.g_median_order T.F_median_order.kp T.b_median_order .nil pass0 (pa_cons (pv 2) (pa_cons (pv 5) (pa_cons (pv 6) pa_nil)))) pa_nil)))))))
     (pss_one (ps_ret pe_bl))
     pss_nil)
    (pss_one (ps_if (pt_not (pt_val (pe_call (okv_law_by_medians T) (hr.mono (by omega)) (by rfl) T.g_law_by_medians T.F_law_by_medians.kp T.b_law_by_medians .nil pass0 (pa_cons (pv 2) (pa_cons (pe_ix (dIx K) (pv 4) (pe_op dSub (pv 6) pe_int) (fun _ _ => rfl)) (pa_cons (pe_ix (dIx K) (pv 3) (pv 6) (fun _ _ => rfl)) (pa_cons (pe_call (okv_median_order T) (hr.mono (by omega)) (by rfl) T.g_median_order T.F_median_order.kp T.b_median_order .nil pass0 (pa_cons (pv 2) (pa_cons (pe_call (okv_law_kept T) (hr.mono (by omega)) (by rfl) T.g_law_kept T.F_law_kept.kp T.b_law_kept .nil pass0 (pa_cons (pv 4) (pa_cons (pv 5) (pa_cons (pv 6) pa_nil)))) (pa_cons (pv 6) pa_nil)))) pa_nil)))))))
     (pss_one (ps_ret pe_bl))
     pss_nil)))))
   (pss_one (ps_ret (pe_call (okv_law_started T) (hr.mono (by omega)) (by rfl) T.g_law_started T.F_law_started.kp T.b_law_started .nil pass0 (pa_cons (pv 2) (pa_cons (pv 3) (pa_cons (pe_call (okv_start_orders T) (hr.mono (by omega)) (by rfl) T.g_start_orders T.F_start_orders.kp T.b_start_orders .nil pass0 (pa_cons (pv 2) pa_nil)) pa_nil)))))))))))), run_law (ls_seq (ls_asg (le_bag la_nil)) (ls_seq (ls_asg (le_def (la_cons (lb_of le_var) la_nil))) (ls_seq (ls_asg (le_bag (la_cons (lb_of le_var) la_nil))) (ls_seq (ls_asg (le_bag (la_cons (lb_of le_var) la_nil))) (ls_seq (ls_for (li_rng2 (la_cons (lb_of (le_c fun _ _ => .int _)) (la_cons (lb_of (le_cb ol_len (la_cons lb_ref la_nil))) la_nil))) lg_name (ls_seq (ls_if (lt_not (lt_B (le_def (la_cons (lb_of le_var) (la_cons (lb_of (le_op ol_ix lb_ref (lb_of (le_op ol_sub lb_ref (lb_of (le_c fun _ _ => .int _)))))) (la_cons (lb_of (le_op ol_ix lb_ref lb_ref)) (la_cons (lb_of (le_def (la_cons (lb_of le_var) (la_cons (lb_of le_var) (la_cons (lb_of le_var) la_nil))))) la_nil))))))) (ls_ret (le_c fun _ _ => .bl _)) ls_pass) (ls_seq (ls_if (lt_not (lt_B (le_def (la_cons (lb_of le_var) (la_cons (lb_of (le_op ol_ix lb_ref (lb_of (le_op ol_sub lb_ref (lb_of (le_c fun _ _ => .int _)))))) (la_cons (lb_of (le_op ol_ix lb_ref lb_ref)) (la_cons (lb_of (le_def (la_cons (lb_of le_var) (la_cons (lb_of le_var) (la_cons (lb_of le_var) la_nil))))) la_nil))))))) (ls_ret (le_c fun _ _ => .bl _)) ls_pass) (ls_if (lt_not (lt_B (le_def (la_cons (lb_of le_var) (la_cons (lb_of (le_op ol_ix lb_ref (lb_of (le_op ol_sub lb_ref (lb_of (le_c fun _ _ => .int _)))))) (la_cons (lb_of (le_op ol_ix lb_ref lb_ref)) (la_cons (lb_of (le_def (la_cons (lb_of le_var) (la_cons (lb_of (le_def (la_cons (lb_of le_var) (la_cons (lb_of le_var) (la_cons (lb_of le_var) la_nil))))) (la_cons (lb_of le_var) la_nil))))) la_nil))))))) (ls_ret (le_c fun _ _ => .bl _)) ls_pass)))) (ls_ret (le_def (la_cons (lb_of le_var) (la_cons (lb_of le_var) (la_cons (lb_of (le_def (la_cons (lb_of le_var) la_nil))) la_nil)))))))))) (by decide) vf_law h⟩
theorem all_mk {l : PySem.W.OpenLaw} {w : World} {K : PySem.W.Frag} {h : Heap} {mg : Str → Option Value} {fa f0 f1 f2 f3 f4 f5 f6 f7 f8 f9 f10 f11 f12 f13 f14 f15 f16 : Addr} (X : K.In h) (G : h.Ns mainGlobals mg) (hfa : mg "law" = some (.ref fa))
    {od0 an0 od1 an1 od2 an2 od3 an3 od4 an4 od5 an5 od6 an6 od7 an7 od8 an8 od9 an9 od10 an10 od11 an11 od12 an12 od13 an13 od14 an14 od15 an15 od16 an16 : Option Addr} {sl0 sl1 sl2 sl3 sl4 sl5 sl6 sl7 sl8 sl9 sl10 sl11 sl12 sl13 sl14 sl15 sl16 : Array (Option Value)} {oc0 kV0 dc0 pm0 cd0 ct0 oc1 kV1 dc1 pm1 cd1 ct1 oc2 kV2 dc2 pm2 cd2 ct2 oc3 kV3 dc3 pm3 cd3 ct3 oc4 kV4 dc4 pm4 cd4 ct4 oc5 kV5 dc5 pm5 cd5 ct5 oc6 kV6 dc6 pm6 cd6 ct6 oc7 kV7 dc7 pm7 cd7 ct7 oc8 kV8 dc8 pm8 cd8 ct8 oc9 kV9 dc9 pm9 cd9 ct9 oc10 kV10 dc10 pm10 cd10 ct10 oc11 kV11 dc11 pm11 cd11 ct11 oc12 kV12 dc12 pm12 cd12 ct12 oc13 kV13 dc13 pm13 cd13 ct13 oc14 kV14 dc14 pm14 cd14 ct14 oc15 kV15 dc15 pm15 cd15 ct15 oc16 kV16 dc16 pm16 cd16 ct16 : Value}
    (a0 : PySem.W.nsIn K mainGlobals "places_by_level" = some (some (.ref f0))) (l0 : K.lookup f0 = some ⟨oc0, od0, .func (PySem.W.fnOf "places_by_level" "places_by_level" (defArgs s_places_by_level) (defBody s_places_by_level) (defScope s_places_by_level) .none kV0 dc0 pm0 an0 cd0 ct0), sl0⟩) (c0 : PySem.W.codeIn K cd0 "places_by_level" = true) (k0 : PySem.W.keepIn K (.ref f0) = true)
    (a1 : PySem.W.nsIn K mainGlobals "median_order" = some (some (.ref f1))) (l1 : K.lookup f1 = some ⟨oc1, od1, .func (PySem.W.fnOf "median_order" "median_order" (defArgs s_median_order) (defBody s_median_order) (defScope s_median_order) .none kV1 dc1 pm1 an1 cd1 ct1), sl1⟩) (c1 : PySem.W.codeIn K cd1 "median_order" = true) (k1 : PySem.W.keepIn K (.ref f1) = true)
    (a2 : PySem.W.nsIn K mainGlobals "start_orders" = some (some (.ref f2))) (l2 : K.lookup f2 = some ⟨oc2, od2, .func (PySem.W.fnOf "start_orders" "start_orders" (defArgs s_start_orders) (defBody s_start_orders) (defScope s_start_orders) .none kV2 dc2 pm2 an2 cd2 ct2), sl2⟩) (c2 : PySem.W.codeIn K cd2 "start_orders" = true) (k2 : PySem.W.keepIn K (.ref f2) = true)
    (a3 : PySem.W.nsIn K mainGlobals "_law_bag" = some (some (.ref f3))) (l3 : K.lookup f3 = some ⟨oc3, od3, .func (PySem.W.fnOf "_law_bag" "_law_bag" (defArgs s_law_bag) (defBody s_law_bag) (defScope s_law_bag) .none kV3 dc3 pm3 an3 cd3 ct3), sl3⟩) (c3 : PySem.W.codeIn K cd3 "_law_bag" = true) (k3 : PySem.W.keepIn K (.ref f3) = true)
    (a4 : PySem.W.nsIn K mainGlobals "_law_draw" = some (some (.ref f4))) (l4 : K.lookup f4 = some ⟨oc4, od4, .func (PySem.W.fnOf "_law_draw" "_law_draw" (defArgs s_law_draw) (defBody s_law_draw) (defScope s_law_draw) .none kV4 dc4 pm4 an4 cd4 ct4), sl4⟩) (c4 : PySem.W.codeIn K cd4 "_law_draw" = true) (k4 : PySem.W.keepIn K (.ref f4) = true)
    (a5 : PySem.W.nsIn K mainGlobals "_law_pick" = some (some (.ref f5))) (l5 : K.lookup f5 = some ⟨oc5, od5, .func (PySem.W.fnOf "_law_pick" "_law_pick" (defArgs s_law_pick) (defBody s_law_pick) (defScope s_law_pick) .none kV5 dc5 pm5 an5 cd5 ct5), sl5⟩) (c5 : PySem.W.codeIn K cd5 "_law_pick" = true) (k5 : PySem.W.keepIn K (.ref f5) = true)
    (a6 : PySem.W.nsIn K mainGlobals "_law_shuffle" = some (some (.ref f6))) (l6 : K.lookup f6 = some ⟨oc6, od6, .func (PySem.W.fnOf "_law_shuffle" "_law_shuffle" (defArgs s_law_shuffle) (defBody s_law_shuffle) (defScope s_law_shuffle) .none kV6 dc6 pm6 an6 cd6 ct6), sl6⟩) (c6 : PySem.W.codeIn K cd6 "_law_shuffle" = true) (k6 : PySem.W.keepIn K (.ref f6) = true)
    (a7 : PySem.W.nsIn K mainGlobals "_law_whole" = some (some (.ref f7))) (l7 : K.lookup f7 = some ⟨oc7, od7, .func (PySem.W.fnOf "_law_whole" "_law_whole" (defArgs s_law_whole) (defBody s_law_whole) (defScope s_law_whole) .none kV7 dc7 pm7 an7 cd7 ct7), sl7⟩) (c7 : PySem.W.codeIn K cd7 "_law_whole" = true) (k7 : PySem.W.keepIn K (.ref f7) = true)
    (a8 : PySem.W.nsIn K mainGlobals "_law_wholes" = some (some (.ref f8))) (l8 : K.lookup f8 = some ⟨oc8, od8, .func (PySem.W.fnOf "_law_wholes" "_law_wholes" (defArgs s_law_wholes) (defBody s_law_wholes) (defScope s_law_wholes) .none kV8 dc8 pm8 an8 cd8 ct8), sl8⟩) (c8 : PySem.W.codeIn K cd8 "_law_wholes" = true) (k8 : PySem.W.keepIn K (.ref f8) = true)
    (a9 : PySem.W.nsIn K mainGlobals "_law_any_net" = some (some (.ref f9))) (l9 : K.lookup f9 = some ⟨oc9, od9, .func (PySem.W.fnOf "_law_any_net" "_law_any_net" (defArgs s_law_any_net) (defBody s_law_any_net) (defScope s_law_any_net) .none kV9 dc9 pm9 an9 cd9 ct9), sl9⟩) (c9 : PySem.W.codeIn K cd9 "_law_any_net" = true) (k9 : PySem.W.keepIn K (.ref f9) = true)
    (a10 : PySem.W.nsIn K mainGlobals "_law_rows_of" = some (some (.ref f10))) (l10 : K.lookup f10 = some ⟨oc10, od10, .func (PySem.W.fnOf "_law_rows_of" "_law_rows_of" (defArgs s_law_rows_of) (defBody s_law_rows_of) (defScope s_law_rows_of) .none kV10 dc10 pm10 an10 cd10 ct10), sl10⟩) (c10 : PySem.W.codeIn K cd10 "_law_rows_of" = true) (k10 : PySem.W.keepIn K (.ref f10) = true)
    (a11 : PySem.W.nsIn K mainGlobals "_law_orders" = some (some (.ref f11))) (l11 : K.lookup f11 = some ⟨oc11, od11, .func (PySem.W.fnOf "_law_orders" "_law_orders" (defArgs s_law_orders) (defBody s_law_orders) (defScope s_law_orders) .none kV11 dc11 pm11 an11 cd11 ct11), sl11⟩) (c11 : PySem.W.codeIn K cd11 "_law_orders" = true) (k11 : PySem.W.keepIn K (.ref f11) = true)
    (a12 : PySem.W.nsIn K mainGlobals "_law_key" = some (some (.ref f12))) (l12 : K.lookup f12 = some ⟨oc12, od12, .func (PySem.W.fnOf "_law_key" "_law_key" (defArgs s_law_key) (defBody s_law_key) (defScope s_law_key) .none kV12 dc12 pm12 an12 cd12 ct12), sl12⟩) (c12 : PySem.W.codeIn K cd12 "_law_key" = true) (k12 : PySem.W.keepIn K (.ref f12) = true)
    (a13 : PySem.W.nsIn K mainGlobals "_law_by_medians" = some (some (.ref f13))) (l13 : K.lookup f13 = some ⟨oc13, od13, .func (PySem.W.fnOf "_law_by_medians" "_law_by_medians" (defArgs s_law_by_medians) (defBody s_law_by_medians) (defScope s_law_by_medians) .none kV13 dc13 pm13 an13 cd13 ct13), sl13⟩) (c13 : PySem.W.codeIn K cd13 "_law_by_medians" = true) (k13 : PySem.W.keepIn K (.ref f13) = true)
    (a14 : PySem.W.nsIn K mainGlobals "_law_kept" = some (some (.ref f14))) (l14 : K.lookup f14 = some ⟨oc14, od14, .func (PySem.W.fnOf "_law_kept" "_law_kept" (defArgs s_law_kept) (defBody s_law_kept) (defScope s_law_kept) .none kV14 dc14 pm14 an14 cd14 ct14), sl14⟩) (c14 : PySem.W.codeIn K cd14 "_law_kept" = true) (k14 : PySem.W.keepIn K (.ref f14) = true)
    (a15 : PySem.W.nsIn K mainGlobals "_law_started" = some (some (.ref f15))) (l15 : K.lookup f15 = some ⟨oc15, od15, .func (PySem.W.fnOf "_law_started" "_law_started" (defArgs s_law_started) (defBody s_law_started) (defScope s_law_started) .none kV15 dc15 pm15 an15 cd15 ct15), sl15⟩) (c15 : PySem.W.codeIn K cd15 "_law_started" = true) (k15 : PySem.W.keepIn K (.ref f15) = true)
    (a16 : PySem.W.nsIn K mainGlobals "law" = some (some (.ref f16))) (l16 : K.lookup f16 = some ⟨oc16, od16, .func (PySem.W.fnOf "law" "law" (defArgs s_law) (defBody s_law) (defScope s_law) .none kV16 dc16 pm16 an16 cd16 ct16), sl16⟩) (c16 : PySem.W.codeIn K cd16 "law" = true) (k16 : PySem.W.keepIn K (.ref f16) = true)
    (z_abs : PySem.W.nsIn K mainGlobals "abs" = some none)
    (z_bool : PySem.W.nsIn K mainGlobals "bool" = some none)
    (z_enumerate : PySem.W.nsIn K mainGlobals "enumerate" = some none)
    (z_int : PySem.W.nsIn K mainGlobals "int" = some none)
    (z_isinstance : PySem.W.nsIn K mainGlobals "isinstance" = some none)
    (z_len : PySem.W.nsIn K mainGlobals "len" = some none)
    (z_list : PySem.W.nsIn K mainGlobals "list" = some none)
    (z_max : PySem.W.nsIn K mainGlobals "max" = some none)
    (z_min : PySem.W.nsIn K mainGlobals "min" = some none)
    (z_range : PySem.W.nsIn K mainGlobals "range" = some none)
    (z_sorted : PySem.W.nsIn K mainGlobals "sorted" = some none)
    (z_sum : PySem.W.nsIn K mainGlobals "sum" = some none)
    (z_tuple : PySem.W.nsIn K mainGlobals "tuple" = some none)
    : ∃ fd : FuncData, (∀ (s : Shared) (v : Value), BindsTo s fd ⟨[v], []⟩ [("script", v)]) ∧ ∀ base : Heap, K.In base → base.Ns mainGlobals mg → FnOk l.prog w K mg base CX0 5 fa fd ["script"] (spLaw K) := by
  have e := hfa.symm.trans (PySem.W.mg_of X G a16)
  cases e
  have F0 := fun_mk (st := s_places_by_level) l0 c0 k0
  have b0 := F0.binds (ps := ["net"]) fun _ _ _ _ _ _ us hl => match us, hl with | [_], _ => rfl
  have F1 := fun_mk (st := s_median_order) l1 c1 k1
  have b1 := F1.binds (ps := ["net", "orders", "level"]) fun _ _ _ _ _ _ us hl => match us, hl with | [_, _, _], _ => rfl
  have F2 := fun_mk (st := s_start_orders) l2 c2 k2
  have b2 := F2.binds (ps := ["net"]) fun _ _ _ _ _ _ us hl => match us, hl with | [_], _ => rfl
  have F3 := fun_mk (st := s_law_bag) l3 c3 k3
  have b3 := F3.binds (ps := ["script"]) fun _ _ _ _ _ _ us hl => match us, hl with | [_], _ => rfl
  have F4 := fun_mk (st := s_law_draw) l4 c4 k4
  have b4 := F4.binds (ps := ["bag", "many"]) fun _ _ _ _ _ _ us hl => match us, hl with | [_, _], _ => rfl
  have F5 := fun_mk (st := s_law_pick) l5 c5 k5
  have b5 := F5.binds (ps := ["bag", "things"]) fun _ _ _ _ _ _ us hl => match us, hl with | [_, _], _ => rfl
  have F6 := fun_mk (st := s_law_shuffle) l6 c6 k6
  have b6 := F6.binds (ps := ["bag", "things"]) fun _ _ _ _ _ _ us hl => match us, hl with | [_, _], _ => rfl
  have F7 := fun_mk (st := s_law_whole) l7 c7 k7
  have b7 := F7.binds (ps := ["got"]) fun _ _ _ _ _ _ us hl => match us, hl with | [_], _ => rfl
  have F8 := fun_mk (st := s_law_wholes) l8 c8 k8
  have b8 := F8.binds (ps := ["got", "many"]) fun _ _ _ _ _ _ us hl => match us, hl with | [_, _], _ => rfl
  have F9 := fun_mk (st := s_law_any_net) l9 c9 k9
  have b9 := F9.binds (ps := ["bag"]) fun _ _ _ _ _ _ us hl => match us, hl with | [_], _ => rfl
  have F10 := fun_mk (st := s_law_rows_of) l10 c10 k10
  have b10 := F10.binds (ps := ["net"]) fun _ _ _ _ _ _ us hl => match us, hl with | [_], _ => rfl
  have F11 := fun_mk (st := s_law_orders) l11 c11 k11
  have b11 := F11.binds (ps := ["bag", "net"]) fun _ _ _ _ _ _ us hl => match us, hl with | [_, _], _ => rfl
  have F12 := fun_mk (st := s_law_key) l12 c12 k12
  have b12 := F12.binds (ps := ["net", "before", "place"]) fun _ _ _ _ _ _ us hl => match us, hl with | [_, _, _], _ => rfl
  have F13 := fun_mk (st := s_law_by_medians) l13 c13 k13
  have b13 := F13.binds (ps := ["net", "before", "row", "got"]) fun _ _ _ _ _ _ us hl => match us, hl with | [_, _, _, _], _ => rfl
  have F14 := fun_mk (st := s_law_kept) l14 c14 k14
  have b14 := F14.binds (ps := ["orders", "other", "r"]) fun _ _ _ _ _ _ us hl => match us, hl with | [_, _, _], _ => rfl
  have F15 := fun_mk (st := s_law_started) l15 c15 k15
  have b15 := F15.binds (ps := ["net", "rows", "start"]) fun _ _ _ _ _ _ us hl => match us, hl with | [_, _, _], _ => rfl
  have T : Txt K mg := { f_places_by_level := _, fd_places_by_level := _, F_places_by_level := F0, g_places_by_level := PySem.W.mg_of X G a0, b_places_by_level := b0, f_median_order := _, fd_median_order := _, F_median_order := F1, g_median_order := PySem.W.mg_of X G a1, b_median_order := b1, f_start_orders := _, fd_start_orders := _, F_start_orders := F2, g_start_orders := PySem.W.mg_of X G a2, b_start_orders := b2, f_law_bag := _, fd_law_bag := _, F_law_bag := F3, g_law_bag := PySem.W.mg_of X G a3, b_law_bag := b3, f_law_draw := _, fd_law_draw := _, F_law_draw := F4, g_law_draw := PySem.W.mg_of X G a4, b_law_draw := b4, f_law_pick := _, fd_law_pick := _, F_law_pick := F5, g_law_pick := PySem.W.mg_of X G a5, b_law_pick := b5, f_law_shuffle := _, fd_law_shuffle := _, F_law_shuffle := F6, g_law_shuffle := PySem.W.mg_of X G a6, b_law_shuffle := b6, f_law_whole := _, fd_law_whole := _, F_law_whole := F7, g_law_whole := PySem.W.mg_of X G a7, b_law_whole := b7, f_law_wholes := _, fd_law_wholes := _, F_law_wholes := F8, g_law_wholes := PySem.W.mg_of X G a8, b_law_wholes := b8, f_law_any_net := _, fd_law_any_net := _, F_law_any_net := F9, g_law_any_net := PySem.W.mg_of X G a9, b_law_any_net := b9, f_law_rows_of := _, fd_law_rows_of := _, F_law_rows_of := F10, g_law_rows_of := PySem.W.mg_of X G a10, b_law_rows_of := b10, f_law_orders := _, fd_law_orders := _, F_law_orders := F11, g_law_orders := PySem.W.mg_of X G a11, b_law_orders := b11, f_law_key := _, fd_law_key := _, F_law_key := F12, g_law_key := PySem.W.mg_of X G a12, b_law_key := b12, f_law_by_medians := _, fd_law_by_medians := _, F_law_by_medians := F13, g_law_by_medians := PySem.W.mg_of X G a13, b_law_by_medians := b13, f_law_kept := _, fd_law_kept := _, F_law_kept := F14, g_law_kept := PySem.W.mg_of X G a14, b_law_kept := b14, f_law_started := _, fd_law_started := _, F_law_started := F15, g_law_started := PySem.W.mg_of X G a15, b_law_started := b15, n_abs := PySem.W.mg_none_of X G z_abs, n_bool := PySem.W.mg_none_of X G z_bool, n_enumerate := PySem.W.mg_none_of X G z_enumerate, n_int := PySem.W.mg_none_of X G z_int, n_isinstance := PySem.W.mg_none_of X G z_isinstance, n_len := PySem.W.mg_none_of X G z_len, n_list := PySem.W.mg_none_of X G z_list, n_max := PySem.W.mg_none_of X G z_max, n_min := PySem.W.mg_none_of X G z_min, n_range := PySem.W.mg_none_of X G z_range, n_sorted := PySem.W.mg_none_of X G z_sorted, n_sum := PySem.W.mg_none_of X G z_sum, n_tuple := PySem.W.mg_none_of X G z_tuple }
  exact ⟨PySem.W.fnOf "law" "law" (defArgs s_law) (defBody s_law) (defScope s_law) .none kV16 dc16 pm16 an16 cd16 ct16, fun s v => .of_eq rfl, fun base _ _ => ok_law T (fun_mk (st := s_law) l16 c16 k16)⟩
end
end K63
open PySem PySem.W PyProof.Rows
set_option maxHeartbeats 0 in
set_option maxRecDepth 100000 in
theorem PySem.Challenge.cw_drawnlayers_k63_median_orders_holds : PySem.Challenge.rw_drawnlayers_k63_median_orders.Holds := by
  w_on; o_law; k_head; (case hw => w_witness2)
  k_fill
  refine L2.walk_of (l := PySem.Challenge.rw_drawnlayers_k63_median_orders) (n := 63) (k := 5) (x := "script") (CX := fun _ => L2.CX0) (sp := fun w => K63.spLaw _) rfl (by decide) rfl ⟨rfl, by decide, by decide⟩ (fun w h Y => PySem.W.kIn_of Y) ?F (fun _ _ a ns hl _ hS => ⟨a, ns, rfl, hS, hl, fun _ => rfl⟩) (fun _ _ _ _ _ z => z)
  case F =>
    intro w mg fa h KX G hmg
    refine' K63.all_mk KX G hmg ?a0 ?l0 ?c0 ?k0 ?a1 ?l1 ?c1 ?k1 ?a2 ?l2 ?c2 ?k2 ?a3 ?l3 ?c3 ?k3 ?a4 ?l4 ?c4 ?k4 ?a5 ?l5 ?c5 ?k5 ?a6 ?l6 ?c6 ?k6 ?a7 ?l7 ?c7 ?k7 ?a8 ?l8 ?c8 ?k8 ?a9 ?l9 ?c9 ?k9 ?a10 ?l10 ?c10 ?k10 ?a11 ?l11 ?c11 ?k11 ?a12 ?l12 ?c12 ?k12 ?a13 ?l13 ?c13 ?k13 ?a14 ?l14 ?c14 ?k14 ?a15 ?l15 ?c15 ?k15 ?a16 ?l16 ?c16 ?k16 ?z_abs ?z_bool ?z_enumerate ?z_int ?z_isinstance ?z_len ?z_list ?z_max ?z_min ?z_range ?z_sorted ?z_sum ?z_tuple
    (case a0 => k_is)
    (case l0 => k_is)
    (case c0 => k_is)
    (case k0 => k_is)
    (case a1 => k_is)
    (case l1 => k_is)
    (case c1 => k_is)
    (case k1 => k_is)
    (case a2 => k_is)
    (case l2 => k_is)
    (case c2 => k_is)
    (case k2 => k_is)
    (case a3 => k_is)
    (case l3 => k_is)
    (case c3 => k_is)
    (case k3 => k_is)
    (case a4 => k_is)
    (case l4 => k_is)
    (case c4 => k_is)
    (case k4 => k_is)
    (case a5 => k_is)
    (case l5 => k_is)
    (case c5 => k_is)
    (case k5 => k_is)
    (case a6 => k_is)
    (case l6 => k_is)
    (case c6 => k_is)
    (case k6 => k_is)
    (case a7 => k_is)
    (case l7 => k_is)
    (case c7 => k_is)
    (case k7 => k_is)
    (case a8 => k_is)
    (case l8 => k_is)
    (case c8 => k_is)
    (case k8 => k_is)
    (case a9 => k_is)
    (case l9 => k_is)
    (case c9 => k_is)
    (case k9 => k_is)
    (case a10 => k_is)
    (case l10 => k_is)
    (case c10 => k_is)
    (case k10 => k_is)
    (case a11 => k_is)
    (case l11 => k_is)
    (case c11 => k_is)
    (case k11 => k_is)
    (case a12 => k_is)
    (case l12 => k_is)
    (case c12 => k_is)
    (case k12 => k_is)
    (case a13 => k_is)
    (case l13 => k_is)
    (case c13 => k_is)
    (case k13 => k_is)
    (case a14 => k_is)
    (case l14 => k_is)
    (case c14 => k_is)
    (case k14 => k_is)
    (case a15 => k_is)
    (case l15 => k_is)
    (case c15 => k_is)
    (case k15 => k_is)
    (case a16 => k_is)
    (case l16 => k_is)
    (case c16 => k_is)
    (case k16 => k_is)
    (case z_abs => k_is)
    (case z_bool => k_is)
    (case z_enumerate => k_is)
    (case z_int => k_is)
    (case z_isinstance => k_is)
    (case z_len => k_is)
    (case z_list => k_is)
    (case z_max => k_is)
    (case z_min => k_is)
    (case z_range => k_is)
    (case z_sorted => k_is)
    (case z_sum => k_is)
    (case z_tuple => k_is)
